"""What stands whatever comes: STRIKES, the BLOT, and sets of PLACES that hold themselves up."""

from notinvain.errors import CanNot
from notinvain.trees import OPEN, agree, first_agreeing, is_number, is_pair, lies, over_last, part_at, put_all
from notinvain.trees import same, spots, spots_from_below, standing_at, tupled


def pass_from_below(sides, form):
    """One pass of STRIKES, the parts of each FORM ahead of it.

    For each PLACE a triple: it; what stands there with the BLOTS of its parts; the number of the
    first SIDE that agrees with that, which is struck then, or None.
    """
    rows, left = [], []
    for place, part in spots_from_below(form):
        node = over_last(part, left)
        number = first_agreeing(sides, node)
        rows.append((place, node, number))
        left.append(node if number is None else OPEN)
    return rows


def blot_of(sides, form):
    """The BLOT of form, for SIDES and a FORM that are tuples throughout."""
    _, node, number = pass_from_below(sides, form)[-1]
    return node if number is None else OPEN


def struck_by(sides, form):
    """The number of the first SIDE that agrees with form; None if none does, or form is OPEN."""
    return first_agreeing(tupled(sides), tupled(form))


def blot(sides, form):
    """The BLOT of form."""
    return blot_of(tupled(sides), tupled(form))


def is_struck_whole(sides, form):
    """Whether the BLOT of form is OPEN."""
    return blot(sides, form) == OPEN


def blot_rows(sides, form):
    """The whole STRIKES of one pass from below."""
    rows = pass_from_below(tupled(sides), tupled(form))
    return tuple([(place, number) for place, node, number in rows if number is not None])


def can_strike(sides, form, place):
    """Whether a STRIKE can be made at place."""
    return struck_by(sides, standing_at(tupled(form), tupled(place))) is not None


def strike(sides, form, place):
    """What a STRIKE at place leaves."""
    if not can_strike(sides, form, place):
        raise CanNot()
    return put_all(tupled(form), {tupled(place): OPEN})


def _is_strike(sides, form, thing):
    """Whether thing is a STRIKE of form."""
    if not is_pair(thing) or not is_number(thing[1]) or not 0 <= thing[1] < len(sides):
        return False
    part = part_at(form, thing[0])
    return part is not None and part != OPEN and agree(sides[thing[1]], part)


def _left_by(sides, form, strikes):
    """What strikes leave of form; None if they are no STRIKES of it."""
    if not isinstance(strikes, tuple):
        return None
    left = form
    for row in strikes:
        if not _is_strike(sides, left, row):
            return None
        left = put_all(left, {row[0]: OPEN})
    return left


def is_strikes(sides, form, thing):
    """Whether thing is STRIKES of form."""
    return _left_by(tupled(sides), tupled(form), thing) is not None


def struck(sides, form, strikes):
    """What strikes leave of form."""
    left = _left_by(tupled(sides), tupled(form), tupled(strikes))
    if left is None:
        raise CanNot()
    return left


def is_whole(sides, form, thing):
    """Whether thing is whole STRIKES of form."""
    left = _left_by(tupled(sides), tupled(form), thing)
    return left is not None and same(left, blot(sides, form))


def _next_strike(sides, form, order):
    """The STRIKE at the first PLACE of order at which one can be made; None if there is none."""
    for place in order:
        number = first_agreeing(sides, part_at(form, place) or OPEN)
        if number is not None:
            return (place, number)
    return None


def strikes_by(sides, form, order):
    """The STRIKES made at the first PLACE of order at which one can be made, until there is none."""
    sides, form, order = tupled(sides), tupled(form), tupled(order)
    for place in order:
        standing_at(form, place)
    out, left = [], form
    row = _next_strike(sides, left, order)
    while row is not None:
        out.append(row)
        left = put_all(left, {row[0]: OPEN})
        row = _next_strike(sides, left, order)
    return tuple(out)


def undecided(sides, form):
    """The set of the PLACES at which OPEN stands, or something whose own BLOT is OPEN."""
    rows = pass_from_below(tupled(sides), tupled(form))
    return tuple(sorted([place for place, node, number in rows if node == OPEN or number is not None]))


def _trimmed(part, place, places):
    """part, which stands at place, one of places, with OPEN put at each PLACE that is not in places."""
    table = {}
    for below, _ in spots(part):
        if place + below not in places:
            table[below] = OPEN
    return put_all(part, table)


def holds_up(sides, form, places):
    """Whether this set of PLACES holds itself up."""
    sides, form, places = tupled(sides), tupled(form), tupled(places)
    parts = [standing_at(form, place) for place in places]
    for place, part in zip(places, parts):
        if part == OPEN or first_agreeing(sides, _trimmed(part, place, places)) is not None:
            return False
    return True


def greatest_held(sides, form):
    """The greatest set of PLACES that holds itself up."""
    rows = pass_from_below(tupled(sides), tupled(form))
    return tuple(sorted([place for place, node, number in rows if node != OPEN and number is None]))


def _part_within(sides, form):
    """(number, place, part) of the first SIDE with a PART that lies in form, the least PLACE; or None."""
    for number, side in enumerate(sides):
        for place, part in spots(side):
            if place != () and part != OPEN and lies(part, form):
                return (number, place, part)
    return None


def reaches(sides, form):
    """None if no PART lies in form, whose BLOT is OPEN; else the OVERLAP that this comes from."""
    sides, form = tupled(sides), tupled(form)
    if blot_of(sides, form) != OPEN:
        raise CanNot()
    found = _part_within(sides, form)
    if found is None:
        return None
    other, above, part = found
    # The whole is struck, so a PLACE at which the PART has a SIGN is: () at the latest.
    struck_there = [row for row in blot_rows(sides, form) if part_at(part, row[0])]
    place, number = struck_there[0]
    return (number, other, above + place)
