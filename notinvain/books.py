"""SIDES and BOOKS: which SIDES agree with one another and with PARTS, which fit where."""

from notinvain.errors import CanNot, NoNumber, NoPlace
from notinvain.forms import has_name, is_form
from notinvain.trees import OPEN, agree, ascending, first_fitting, flat, is_number, is_numbers, join_of, lies
from notinvain.trees import open_in, own_sign, part_at, put_all, spots, standing_at, tupled

_BARRED = ("end", "stop", "mark")


def is_side(thing):
    """Whether thing is a SIDE."""
    if not is_form(thing) or thing == OPEN:
        return False
    return not any([has_name(thing, name) for name in _BARRED])


def is_sides(thing):
    """Whether thing is SIDES: a set of SIDES."""
    if not isinstance(thing, tuple) or not all(is_side(side) for side in thing):
        return False
    rows = [flat(side) for side in thing]
    return all(rows[number] < rows[number + 1] for number in range(len(rows) - 1))


def is_book(thing):
    """Whether thing is a BOOK."""
    return is_sides(thing) and not _overlaps_in(thing)


def is_plain(sides):
    """Whether no PART has the SIGN of one of sides."""
    firsts = first_signs(sides)
    return not any([own_sign(part) in firsts for part in parts_of(sides)])


def _filled(form):
    """The pairs of a PLACE of form and what stands there, without those at which OPEN stands."""
    return [(place, part) for place, part in spots(form) if part != OPEN]


def parts_of(sides):
    """The set of all PARTS of sides."""
    return ascending([part for side in tupled(sides) for place, part in _filled(side) if place != ()])


def pattern_of(side):
    """The set of the PLACES of side at which not OPEN stands."""
    return tuple([place for place, part in _filled(tupled(side))])


def signs_of(sides):
    """The set of the SIGNS of all SIDES and PARTS."""
    return ascending([own_sign(part) for side in tupled(sides) for place, part in _filled(side)])


def first_signs(sides):
    """The set of the SIGNS of the SIDES."""
    return ascending([own_sign(side) for side in tupled(sides)])


def sides_with(sides, sign):
    """The set of the SIDES with this SIGN."""
    sign = tupled(sign)
    return tuple([side for side in tupled(sides) if own_sign(side) == sign])


def fitting(sides, form):
    """The least SIDE that fits form; None if none does."""
    sides = tupled(sides)
    number = first_fitting(sides, tupled(form))
    return None if number is None else sides[number]


def agreeing(sides, form):
    """The set of the numbers of the SIDES that agree with form."""
    form = tupled(form)
    return tuple([number for number, side in enumerate(tupled(sides)) if agree(side, form)])


def under(side, place):
    """Which OPEN PLACE of side place is at or below, and by what; None if place is in its pattern."""
    side, place = tupled(side), tupled(place)
    part = side
    for above, number in enumerate(place):
        if part == OPEN:
            return (open_in(side).index(place[:above]), place[above:])
        part = part_at(part, (number,))
        if part is None:
            raise NoPlace(place)
    return (open_in(side).index(place), ()) if part == OPEN else None


def _overlaps_in(sides):
    """All OVERLAPS of sides, ascending."""
    rows = []
    for other, second in enumerate(sides):
        for place, part in _filled(second):
            for number, first in enumerate(sides):
                if (place != () or number < other) and agree(first, part):
                    rows.append((number, other, place))
    return ascending(rows)


def overlaps(sides):
    """The set of all OVERLAPS of sides."""
    return _overlaps_in(tupled(sides))


def is_overlap(sides, thing):
    """Whether thing is an OVERLAP of sides."""
    if not isinstance(thing, tuple) or len(thing) != 3:
        return False
    # True equals 1, so the kinds are asked for ahead of the search.
    if not is_number(thing[0]) or not is_number(thing[1]) or not is_numbers(thing[2]):
        return False
    return thing in _overlaps_in(tupled(sides))


def overlap_form(sides, overlap):
    """The least FORM in which the second SIDE lies, and the first one in what stands at the PLACE."""
    sides, overlap = tupled(sides), tupled(overlap)
    for number in overlap[:2]:
        if not 0 <= number < len(sides):
            raise NoNumber(number)
    if not is_overlap(sides, overlap):
        raise CanNot()
    number, other, place = overlap
    part = part_at(sides[other], place)
    return put_all(sides[other], {place: join_of(sides[number], part)})


def _all_books(sides):
    """All BOOKS made of SIDES of sides, as ascending tuples of numbers."""
    found = [()]
    for number, side in enumerate(sides):
        if _overlaps_in((side,)):
            continue
        foes = [other for other in range(number) if _overlaps_in((sides[other], side))]
        friendly = [own for own in found if not any([foe in own for foe in foes])]
        found = found + [own + (number,) for own in friendly]
    return found


def books_within(sides):
    """The set of the BOOKS made of SIDES of sides that get no BOOK by one more of these."""
    sides = tupled(sides)
    found = {own: True for own in _all_books(sides)}
    rows = []
    for own in found:
        grown = [tuple(sorted(own + (number,))) for number in range(len(sides)) if number not in own]
        if not any([more in found for more in grown]):
            rows.append(tuple([sides[number] for number in own]))
    return ascending(rows)


def most_book(sides):
    """The least of the BOOKS of books_within that have the most SIDES."""
    found = books_within(sides)
    most = max([len(book) for book in found])
    return [book for book in found if len(book) == most][0]


def spoilers(sides):
    """The set of the SIDES that agree with a PART of their own."""
    return tuple([side for side in tupled(sides) if _overlaps_in((side,))])


def fits_in(sides, form):
    """The set of the pairs of a PLACE of form and the number of a SIDE that fits there."""
    sides = tupled(sides)
    rows = []
    for place, part in spots(tupled(form)):
        for number, side in enumerate(sides):
            if lies(side, part):
                rows.append((place, number))
    return tuple(rows)


def clash(sides, form):
    """The least (place, number, other): two SIDES that fit, other at place or in the pattern of number."""
    sides, form = tupled(sides), tupled(form)
    fits = fits_in(sides, form)
    for place, number in fits:
        inner = [place + below for below in pattern_of(sides[number])]
        others = [pair[1] for pair in fits if pair[0] in inner and pair != (place, number)]
        if others:
            return (place, number, min(others))
    return None


def split_by(sides, form, place):
    """The SIGNS that the SIDES that agree with form have at place, each with the numbers of these."""
    sides, form, place = tupled(sides), tupled(form), tupled(place)
    if standing_at(form, place) != OPEN:
        raise CanNot()
    table = {}
    for number in agreeing(sides, form):
        sign = own_sign(part_at(sides[number], place) or OPEN) or ()
        table.setdefault(sign, []).append(number)
    return tuple([(sign, tuple(table[sign])) for sign in sorted(table)])
