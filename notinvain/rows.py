"""What a FORM shows to what is above it: ROWS, the closed table, and FORMS that no SURROUNDING parts.

Within, a set of PARTS is a number, as framed tells: bit k of it is that of PART k. A row within is
(open, fits, agrees, lots) of such numbers; a need is 0 for an OPEN part, else the bit of this PART.
"""

from notinvain.blots import blot_of
from notinvain.books import parts_of, signs_of
from notinvain.errors import CanNot, TooMany
from notinvain.forms import has_name, is_form, signs_in
from notinvain.needs import needed_tasks
from notinvain.runs import is_standing
from notinvain.trees import OPEN, framed, is_met, is_number, is_numbers, is_pair, part_at, parts_met, put_all
from notinvain.trees import side_met, spots_from_below, tupled

_END = ("end", 0)
_MOST_PAIRS = 64
_MOST_STEPS = 600


def _frames_of(book):
    """book and its PARTS, framed."""
    return framed(tupled(book), parts_of(book))


def _least_of(lots):
    """The set of those of lots in which no other one lies."""
    own = sorted(set(lots))
    return tuple([lot for lot in own if not any([less != lot and less & lot == less for less in own])])


def _row_within(frames, name, rows):
    """The row of a FORM with this NAME over parts with these rows; None if a SIDE fits it."""
    sign = (name, len(rows))
    fits, agrees = [row[1] for row in rows], [row[2] for row in rows]
    if side_met(frames, sign, fits):
        return None
    lots = []
    for number, row in enumerate(rows):
        for lot in row[3]:
            own = agrees[:number] + [lot] + agrees[number + 1:]
            if not side_met(frames, sign, own):
                lots.append(parts_met(frames, sign, own))
    own_fits, lots = parts_met(frames, sign, fits), _least_of(lots)
    if side_met(frames, sign, agrees):
        return (2, own_fits, frames[2], lots)
    opened = 1 if any([row[0] for row in rows]) else 0
    return (opened, own_fits, parts_met(frames, sign, agrees), lots)


def _open_row(frames):
    """The row of OPEN."""
    return (2, 0, frames[2], (0,))


def _row_of_form(frames, form):
    """The row of form; None if it is not standing."""
    done = []
    for _, part in spots_from_below(form):
        if part == OPEN:
            done.append(_open_row(frames))
            continue
        start = len(done) - (len(part) - 1)
        row = _row_within(frames, part[0], done[start:])
        if row is None:
            return None
        del done[start:]
        done.append(row)
    return done[0]


def _numbers_in(number):
    """The set of the numbers of the bits of number."""
    return tuple([bit for bit in range(number.bit_length()) if (number >> bit) & 1])


def _number_of(numbers):
    """The number with these bits."""
    return sum([1 << own for own in numbers])


def _told(row):
    """The ROW that is told of a row within."""
    lots = tuple(sorted([_numbers_in(lot) for lot in row[3]]))
    return (row[0], _numbers_in(row[1]), _numbers_in(row[2]), lots)


def row_if_standing(book, form):
    """The ROW of form; None if it is not standing."""
    row = _row_of_form(_frames_of(book), tupled(form))
    return None if row is None else _told(row)


def row_of(book, form):
    """The ROW of form."""
    row = row_if_standing(book, form)
    if row is None:
        raise CanNot()
    return row


def row_over(book, name, rows):
    """The ROW of a FORM with this NAME over parts with these ROWS; None if a SIDE fits it."""
    own = []
    for opened, fits, agrees, lots in tupled(rows):
        own.append((opened, _number_of(fits), _number_of(agrees), tuple([_number_of(lot) for lot in lots])))
    row = _row_within(_frames_of(book), name, own)
    return None if row is None else _told(row)


def _picks(count, many):
    """All tuples of so many numbers below count."""
    out = [()]
    for _ in range(many):
        out = [own + (number,) for own in out for number in range(count)]
    return out


def _check_bounds(signs, count):
    """TooMany, if so many ROWS are more than a table may have."""
    powers = (1, count, count * count, count * count * count)
    if count > _MOST_PAIRS or sum([powers[many] for name, many in signs]) > _MOST_STEPS:
        raise TooMany()


class Grown:
    """The rows within of all standing FORMS of a book, in the order of their FORMS by size.

    rows, forms and sizes are lists; a step is (name, picks, row): over rows of these numbers comes
    this row, or None.
    """

    def __init__(self, book):
        self.frames = _frames_of(book)
        self.signs = signs_of(book)
        self.rows, self.forms, self.sizes, self.steps = [], [], [], []
        waiting = {_open_row(self.frames): (1, OPEN)}
        for name, many in self.signs + (_END,):
            if many == 0:
                self._step(name, (), waiting)
        while waiting:
            size, form, row = min([waiting[own] + (own,) for own in waiting])
            del waiting[row]
            self._take(size, form, row)
            for name, many in self.signs:
                for picks in _picks(len(self.rows), many):
                    if len(self.rows) - 1 in picks:
                        self._step(name, picks, waiting)

    def _take(self, size, form, row):
        """Adds this row; its FORM has the fewest PLACES, and is the least of these."""
        self.rows.append(row)
        self.forms.append(form)
        self.sizes.append(size)
        _check_bounds(self.signs, len(self.rows))

    def _step(self, name, picks, waiting):
        """Adds the step over picks, and what comes to waiting: by row the least (size, FORM)."""
        row = _row_within(self.frames, name, [self.rows[number] for number in picks])
        self.steps.append((name, picks, row))
        if row is None or row in self.rows:
            return
        size = 1 + sum([self.sizes[number] for number in picks])
        own = (size, (name,) + tuple([self.forms[number] for number in picks]))
        waiting[row] = min(own, waiting.get(row, own))


def closed_table(book):
    """The pairs of each ROW of the standing FORMS of book and the least FORM that has it."""
    grown = Grown(book)
    return tuple(sorted([(_told(row), form) for row, form in zip(grown.rows, grown.forms)]))


def _is_row(thing):
    """Whether thing is built as a ROW."""
    if not isinstance(thing, tuple) or len(thing) != 4 or not is_number(thing[0]):
        return False
    if not is_numbers(thing[1]) or not is_numbers(thing[2]) or not isinstance(thing[3], tuple):
        return False
    return all([is_numbers(lot) for lot in thing[3]])


def _row_told(book, frames, thing):
    """The row within of thing, a pair (ROW, FORM); None if it is no such pair, of a standing FORM of book."""
    if not is_pair(thing) or not _is_row(thing[0]) or not is_form(thing[1]):
        return None
    signs = signs_of(book) + (_END,)
    if not all([sign in signs for sign in signs_in(thing[1])]):
        return None
    row = _row_of_form(frames, thing[1])
    return row if row is not None and _told(row) == thing[0] else None


def _holds_all_over(frames, signs, rows):
    """Whether rows has the row over any rows in it, of each of signs, for which no SIDE fits."""
    known = {row: True for row in rows}
    known[None] = True
    for name, many in signs:
        for picks in _picks(len(rows), many):
            if _row_within(frames, name, [rows[number] for number in picks]) not in known:
                return False
    return True


def is_closed(book, thing):
    """Whether thing is a table of ROWS and FORMS that is closed."""
    if not isinstance(thing, tuple):
        return False
    frames, rows = _frames_of(book), []
    for number, pair in enumerate(thing):
        row = _row_told(book, frames, pair)
        if row is None or number > 0 and thing[number - 1][0] >= pair[0]:
            return False
        rows.append(row)
    if _open_row(frames) not in rows or _row_of_form(frames, (_END[0],)) not in rows:
        return False
    return _holds_all_over(frames, signs_of(book), rows)


def _seen_of(row):
    """What a SURROUNDING sees of a row within: (struck, fits, agrees, lots), the lots of its own TASKS alone."""
    return (row[0] == 2, row[1], row[2], row[3])


def _view(frames, sign, at, siblings):
    """What siblings, rows within, leave to part at of a FORM with this SIGN: needs and pairs of a bit and a need.

    Two of each: by what fits, and by what agrees.
    """
    out = []
    for kind in (1, 2):
        sets = [row[kind] for row in siblings]
        sets.insert(at, frames[2])
        needs = [own[at] for own in frames[0].get(sign, ()) if is_met(own, sets)]
        pairs = [(bit, own[at]) for bit, own in frames[1].get(sign, ()) if is_met(own, sets)]
        out.append((tuple(sorted(set(needs))), tuple(pairs)))
    return tuple(out)


def _met_of(pairs, number):
    """The sum of the bits of those pairs whose need is in the set number."""
    return sum([bit for bit, need in pairs if need & number == need])


def _hit(needs, number):
    """Whether one of needs is in the set number."""
    return any([need & number == need for need in needs])


def _seen_over(frames, seen, view):
    """What is seen of what was seen, and of what stands around it by view; None if a SIDE fits."""
    (fit_needs, fit_pairs), (needs, pairs) = view
    if _hit(fit_needs, seen[1]):
        return None
    struck = _hit(needs, seen[2])
    agrees = frames[2] if struck else _met_of(pairs, seen[2])
    lots = [_met_of(pairs, lot) for lot in seen[3] if not _hit(needs, lot)]
    return (struck, _met_of(fit_pairs, seen[1]), agrees, _least_of(lots))


def _views(grown):
    """The unlike views over rows of grown: a dict of (cost, sign, at, picks), each with the fewest PLACES."""
    found = {}
    for sign in grown.signs:
        for at in range(sign[1]):
            for picks in _picks(len(grown.rows), sign[1] - 1):
                view = _view(grown.frames, sign, at, [grown.rows[number] for number in picks])
                own = (1 + sum([grown.sizes[number] for number in picks]), sign, at, picks)
                found[view] = min(own, found.get(view, own))
    return found


def _is_parted(one, other):
    """Whether what is seen of two FORMS parts them; None is seen of one that is not standing."""
    if one is None or other is None:
        return one != other
    return one[0] != other[0] or (one[3] == ()) != (other[3] == ())


def _all_over(grown, views, pair, kept):
    """The pairs of what is seen over what is seen in pair, one for each view; kept has what was worked out."""
    for seen in pair:
        if seen not in kept:
            kept[seen] = [_seen_over(grown.frames, seen, view) for view in views]
    return list(zip(kept[pair[0]], kept[pair[1]]))


def _way_to_part(grown, one, other):
    """The views, from within, over which what is seen of two FORMS parts them, with the fewest PLACES; or None."""
    views, kept = _views(grown), {}
    waiting, done = {0: [((one, other), ())]}, {}
    while waiting:
        cost = min(list(waiting))
        pairs = waiting.pop(cost)
        for pair, way in pairs:
            if _is_parted(pair[0], pair[1]):
                return way
            if pair in done or pair[0] == pair[1]:
                continue
            done[pair] = True
            for own, view in zip(_all_over(grown, views, pair, kept), views):
                waiting.setdefault(cost + views[view][0], []).append((own, way + (views[view],)))
    return None


def _surrounding(grown, way):
    """The SURROUNDING of these views, told from within."""
    form, place = OPEN, ()
    for _, sign, at, picks in way:
        parts = [grown.forms[number] for number in picks]
        parts.insert(at, form)
        form, place = (sign[0],) + tuple(parts), (at,) + place
    return (form, place)


def parting(book, form, other):
    """A SURROUNDING with as few PLACES as can be that parts form and other; None if they are alike."""
    frames = _frames_of(book)
    rows = [_row_of_form(frames, tupled(own)) for own in (form, other)]
    if None in rows:
        raise CanNot()
    grown = Grown(book)
    way = _way_to_part(grown, _seen_of(rows[0]), _seen_of(rows[1]))
    return None if way is None else _surrounding(grown, way)


def are_alike(book, form, other):
    """Whether no SURROUNDING parts form and other."""
    return parting(book, form, other) is None


def _needs_below(book, form, place):
    """Whether a TASK of form at place or below it is needed."""
    return any([task[:len(place)] == place for task in needed_tasks(book, form)])


def does_part(book, form, other, thing):
    """Whether thing is a SURROUNDING that parts form and other."""
    book, form, other = tupled(book), tupled(form), tupled(other)
    if not is_standing(book, form) or not is_standing(book, other):
        raise CanNot()
    if not is_pair(thing) or not is_form(thing[0]) or has_name(thing[0], "mark"):
        return False
    if part_at(thing[0], thing[1]) != OPEN:
        return False
    one, two = put_all(thing[0], {thing[1]: form}), put_all(thing[0], {thing[1]: other})
    if not is_standing(book, one) or not is_standing(book, two):
        return is_standing(book, one) != is_standing(book, two)
    if (blot_of(book, one) == OPEN) != (blot_of(book, two) == OPEN):
        return True
    return _needs_below(book, one, thing[1]) != _needs_below(book, two, thing[1])


def _all_seen(grown, views):
    """What is seen of all rows of grown, over all views: by what is seen a tuple of what is over it."""
    found, waiting = {}, [_seen_of(row) for row in grown.rows]
    while waiting:
        seen = waiting.pop()
        if seen is None or seen in found:
            continue
        found[seen] = tuple([_seen_over(grown.frames, seen, view) for view in views])
        waiting.extend(found[seen])
    return found


def _classes(found):
    """For each that is seen, the number of its class: in one class are those that nothing parts."""
    classes = {seen: (1 if seen[0] else 0) + (2 if seen[3] else 0) for seen in found}
    count = 0
    while len(set(list(classes.values()))) > count:
        count = len(set(list(classes.values())))
        numbers, finer = {}, {}
        for seen in found:
            own = (classes[seen],) + tuple([classes.get(over, -1) for over in found[seen]])
            finer[seen] = numbers.setdefault(own, len(numbers))
        classes = finer
    return classes


def alike_sets(book):
    """The sets of the numbers of the pairs of closed_table whose FORMS are alike."""
    grown = Grown(book)
    classes = _classes(_all_seen(grown, _views(grown)))
    rows = sorted([(_told(row), row) for row in grown.rows])
    table = {}
    for number, (_, row) in enumerate(rows):
        table.setdefault(classes[_seen_of(row)], []).append(number)
    return tuple(sorted([tuple(table[own]) for own in table]))
