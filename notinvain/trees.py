"""What the other modules share: FORMS that are tuples throughout, the PLACES in them, and CELLS.

Nothing here calls itself: what the package returns may be passed in again, so a FORM may grow
deeper than Python lets a function call itself. Nor does it let == and < go so deep into tuples.
"""

from notinvain.errors import NoPlace

OPEN = ()


def is_number(thing):
    """Whether thing is a number: an integer that is neither True nor False."""
    return isinstance(thing, int) and not isinstance(thing, bool)


def is_numbers(thing):
    """Whether thing is a tuple of numbers."""
    return isinstance(thing, tuple) and all(is_number(part) for part in thing)


def is_pair(thing):
    """Whether thing is a pair."""
    return isinstance(thing, tuple) and len(thing) == 2


def is_name(thing):
    """Whether thing is a NAME."""
    if not isinstance(thing, str) or not 1 <= len(thing) <= 8:
        return False
    return all("a" <= letter <= "z" for letter in thing)


def tupled(given):
    """given, with tuples in the place of its lists, at any depth."""
    waiting, rows = [given], []
    while waiting:
        part = waiting.pop()
        rows.append(part)
        if isinstance(part, (list, tuple)):
            waiting.extend(part)
    done = []
    for part in rows[::-1]:
        if not isinstance(part, (list, tuple)):
            done.append(part)
            continue
        start = len(done) - len(part)
        own = tuple(done[start:])
        del done[start:]
        done.append(own)
    return done[0]


def flat(thing):
    """A tuple without tuples in it, by which things are compared just as they are themselves, however deep."""
    waiting, out = [((thing,), 0)], []
    while waiting:
        whole, at = waiting.pop()
        # The end of a tuple comes ahead of one more member.
        if at == len(whole):
            out.append(0)
            continue
        out.append(1)
        waiting.append((whole, at + 1))
        if isinstance(whole[at], tuple):
            waiting.append((whole[at], 0))
        else:
            out.append(whole[at])
    return tuple(out)


def same(one, other):
    """Whether two things are equal, however deep."""
    waiting = [(one, other)]
    while waiting:
        own, more = waiting.pop()
        if not isinstance(own, tuple) or not isinstance(more, tuple):
            if own != more:
                return False
            continue
        if len(own) != len(more):
            return False
        waiting.extend(list(zip(own, more)))
    return True


def ascending(rows):
    """The tuple of all that is in rows, ascending, each once."""
    table = {flat(row): row for row in rows}
    return tuple([table[own] for own in sorted(table)])


def spots(form):
    """The pairs of a PLACE and what stands there, ascending by PLACE."""
    waiting, rows = [((), form)], []
    while waiting:
        place, part = waiting.pop()
        rows.append((place, part))
        for number in reversed(range(len(part) - 1)):
            waiting.append((place + (number,), part[number + 1]))
    return rows


def spots_from_below(form):
    """The same pairs, those of the parts of each FORM ahead of it, of the first part first."""
    waiting, rows = [((), form)], []
    while waiting:
        place, part = waiting.pop()
        rows.append((place, part))
        for number in range(len(part) - 1):
            waiting.append((place + (number,), part[number + 1]))
    return rows[::-1]


def over_last(part, done):
    """part with the last of the list done as its own parts, which are taken off there."""
    if part == OPEN:
        return OPEN
    start = len(done) - (len(part) - 1)
    node = (part[0],) + tuple(done[start:])
    del done[start:]
    return node


def part_at(form, place):
    """What stands at place; None if that is no PLACE of form, whatever else it is."""
    if not is_numbers(place):
        return None
    part = form
    for number in place:
        if not 0 <= number < len(part) - 1:
            return None
        part = part[number + 1]
    return part


def standing_at(form, place):
    """What stands at place, which ought to be a PLACE of form."""
    part = part_at(form, place)
    if part is None:
        raise NoPlace(place)
    return part


def put_all(form, table):
    """form with what table, a dict, has for PLACES put there; what is put above another one counts."""
    done = []
    for place, part in spots_from_below(form):
        node = over_last(part, done)
        done.append(table[place] if place in table else node)
    return done[0]


def own_sign(form):
    """The SIGN of form; None if it is OPEN."""
    return None if form == OPEN else (form[0], len(form) - 1)


def open_form(sign):
    """The FORM with this SIGN and OPEN parts."""
    return (sign[0],) + (OPEN,) * sign[1]


def open_in(form):
    """The tuple of the OPEN PLACES of form, ascending."""
    return tuple([place for place, part in spots(form) if part == OPEN])


def lies(form, other):
    """Whether form lies in other."""
    waiting = [(form, other)]
    while waiting:
        part, whole = waiting.pop()
        if part == OPEN:
            continue
        if own_sign(part) != own_sign(whole):
            return False
        waiting.extend(list(zip(part[1:], whole[1:])))
    return True


def agree(form, other):
    """Whether form and other agree."""
    waiting = [(form, other)]
    while waiting:
        one, two = waiting.pop()
        if one == OPEN or two == OPEN:
            continue
        if own_sign(one) != own_sign(two):
            return False
        waiting.extend(list(zip(one[1:], two[1:])))
    return True


def join_of(form, other):
    """The join of two FORMS that agree."""
    table = {}
    for place in open_in(form):
        part = part_at(other, place)
        if part is not None:
            table[place] = part
    return put_all(form, table)


def first_fitting(sides, form):
    """The number of the first SIDE that fits form; None if none does."""
    for number, side in enumerate(sides):
        if lies(side, form):
            return number
    return None


def first_agreeing(sides, form):
    """The number of the first SIDE that agrees with form; None if none does, or form is OPEN."""
    if form == OPEN:
        return None
    for number, side in enumerate(sides):
        if agree(side, form):
            return number
    return None


def _needs_of(whole, bits):
    """For each part of whole, a SIDE or a PART: 0 if it is OPEN, else what bits has for it, made flat."""
    return tuple([0 if part == OPEN else bits[flat(part)] for part in whole[1:]])


def framed(sides, parts):
    """sides and their PARTS, with sets of PARTS as numbers: bit k is that of PART k.

    Three: what the SIDES need of each part, a dict by SIGN; likewise for the PARTS, pairs of the own
    bit and what is needed; the number of the set of all PARTS.
    """
    over_sides, over_parts = {}, {}
    bits = {flat(part): 1 << number for number, part in enumerate(parts)}
    for side in sides:
        over_sides.setdefault(own_sign(side), []).append(_needs_of(side, bits))
    for number, part in enumerate(parts):
        over_parts.setdefault(own_sign(part), []).append((1 << number, _needs_of(part, bits)))
    return (over_sides, over_parts, (1 << len(parts)) - 1)


def is_met(needs, numbers):
    """Whether each of needs is in the set of its part."""
    return all([own & number == own for own, number in zip(needs, numbers)])


def side_met(frames, sign, numbers):
    """Whether some SIDE with this SIGN has its needs in numbers, the sets of the parts."""
    return any([is_met(needs, numbers) for needs in frames[0].get(sign, ())])


def parts_met(frames, sign, numbers):
    """The set of the PARTS with this SIGN that have their needs in numbers, the sets of the parts."""
    return sum([bit for bit, needs in frames[1].get(sign, ()) if is_met(needs, numbers)])


def nodes_of(reply):
    """The nodes of reply, in their order."""
    waiting, nodes = [reply], []
    while waiting:
        node = waiting.pop()
        nodes.append(node)
        if not is_number(node):
            waiting.extend(node[1:][::-1])
    return nodes


class Cells:
    """The CELLS of a HOUSE, by the SIDES of a BOOK: own has their own cells, links where calls led, by cell name."""

    def __init__(self, book, plan):
        self.book, self.plan = book, plan
        self.own, self.links, self.replies = {}, {}, {}
        for number, own in enumerate(plan):
            self.own[(number,)] = own[:1] + tuple([(part,) for part in own[1:]])

    def way(self, cell):
        """The links from cell to the CELL at its end."""
        out = []
        while cell in self.links:
            out.append(cell)
            cell = self.links[cell]
        return out

    def end(self, cell):
        """The CELL at the end of cell."""
        while cell in self.links:
            cell = self.links[cell]
        return cell

    def parts(self, cell):
        """The CELLS at the ends of the parts of the own cell of cell."""
        return [self.end(part) for part in self.own[cell][1:]]

    def _is_fitted(self, side, cell):
        """Whether side fits what the own cell of cell holds."""
        waiting = [(side, cell)]
        while waiting:
            part, at = waiting.pop()
            own = self.own[at]
            if own == OPEN or own[0] != part[0] or len(own) != len(part):
                return False
            waiting.extend([pair for pair in zip(part[1:], self.parts(at)) if pair[0] != OPEN])
        return True

    def side(self, cell):
        """The SIDE that fits what the own cell of cell holds; None if none does."""
        for own in self.book:
            if self._is_fitted(own, cell):
                return own
        return None

    def is_free(self, cell):
        """Whether cell, which is there, was not called, and is OPEN or due."""
        return cell not in self.links and (self.own[cell] == OPEN or self.side(cell) is not None)

    def found(self, cell):
        """The CELLS that the OPEN PLACES of the SIDE that fits cell have met."""
        side = self.side(cell)
        if side is None:
            return ()
        return tuple([self._part_at(cell, place) for place in open_in(side)])

    def _part_at(self, cell, place):
        """The CELL, maybe a link, that place leads to, read from the own cell of cell."""
        for number in place[:-1]:
            cell = self.end(self.own[cell][number + 1])
        return self.own[cell][place[-1] + 1]

    def make(self, cell, reply):
        """Makes the call at cell."""
        found, nodes, made = self.found(cell), nodes_of(reply), []
        # From behind: the CELLS of the parts of a node are there by then, its first part last.
        for number in reversed(range(len(nodes))):
            node, name = nodes[number], cell + (number,)
            if is_number(node) and node < len(found):
                made.append(found[node])
                continue
            own = ("end",) if is_number(node) else node
            start = len(made) - len(own[1:])
            self.own[name] = own[:1] + tuple(made[start:][::-1])
            del made[start:]
            made.append(name)
        self.links[cell], self.replies[cell] = made[0], reply

    def below(self, cell):
        """The CELLS, no links, at the end of cell and below, those of the parts of each ahead of it."""
        waiting, seen, out = [(self.end(cell), False)], {}, []
        while waiting:
            own, parts_done = waiting.pop()
            if parts_done:
                out.append(own)
            elif own not in seen:
                seen[own] = True
                waiting.append((own, True))
                waiting.extend([(part, False) for part in self.parts(own)])
        return out

    def house(self):
        """The HOUSE."""
        return (self.plan, tuple([(cell, self.replies[cell]) for cell in sorted(self.replies)]))
