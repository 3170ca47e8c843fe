"""SIDES that follow others, BOOKS that are joined and edited, and what is kept of a HOUSE then."""

from itertools import combinations

from notinvain.always import lacks
from notinvain.blots import blot_of, blot_rows, is_whole
from notinvain.books import first_signs, is_book, is_plain, signs_of
from notinvain.cells import most_made
from notinvain.ends import closed
from notinvain.errors import CanNot, Unfit
from notinvain.forms import has_name, is_form
from notinvain.looks import tree_of
from notinvain.lots import least_blockers
from notinvain.runs import tasks
from notinvain.trees import OPEN, ascending, lies, own_sign, put_all, same, spots, tupled

_NOTHING = ("end",)


def follows(sides, other):
    """Whether sides strike out of each FORM whatever other strikes out."""
    return odd_form(sides, other) is None


def odd_form(sides, other):
    """A FORM whose BLOT by sides does not lie in its BLOT by other; None if there is none."""
    sides = tupled(sides)
    for side in tupled(other):
        whole = closed(side, "end")
        if blot_of(sides, whole) != OPEN:
            return whole
    return None


def is_odd_form(sides, other, thing):
    """Whether thing is such a FORM, without marks."""
    if not is_form(thing) or has_name(thing, "mark"):
        return False
    return not lies(blot_of(tupled(sides), thing), blot_of(tupled(other), thing))


def reasons(sides, other):
    """For each SIDE of other whole STRIKES by sides that leave OPEN of it; None if there are none."""
    if not follows(sides, other):
        return None
    return tuple([blot_rows(sides, closed(side, "end")) for side in tupled(other)])


def are_reasons(sides, other, thing):
    """Whether thing is a tuple of such STRIKES."""
    other = tupled(other)
    if not isinstance(thing, tuple) or len(thing) != len(other) or not follows(sides, other):
        return False
    return all([is_whole(sides, closed(side, "end"), own) for side, own in zip(other, thing)])


def idle_sides(sides):
    """The set of the SIDES that the others follow without them."""
    sides = tupled(sides)
    return tuple([side for number, side in enumerate(sides) if follows(sides[:number] + sides[number + 1:], (side,))])


def _checked_book(sides):
    """sides, which ought to be a BOOK."""
    if not is_book(sides):
        raise Unfit()
    return sides


def with_side(book, side):
    """book with side."""
    return _checked_book(ascending(tupled(book) + (tupled(side),)))


def both_books(book, other):
    """The BOOK of all SIDES of both."""
    return _checked_book(ascending(tupled(book) + tupled(other)))


def without_side(book, side):
    """book without side."""
    book, side = tupled(book), tupled(side)
    rest = tuple([own for own in book if not same(own, side)])
    if len(rest) == len(book):
        raise CanNot()
    return rest


def _with_own_signs(book, signs, form):
    """form as far as it has these SIGNS from the root on; the rest is OPEN if it is struck whole, else ("end",)."""
    table = {}
    for place, part in spots(form):
        if own_sign(part) not in signs:
            table[place] = OPEN if blot_of(book, part) == OPEN else _NOTHING
    return put_all(form, table)


def own_lacking(book, other, form):
    """The number, 0 or 1, of one of the two BOOKS, and a FORM of its own SIGNS that lacks by it."""
    both, rows = tupled(book) + tupled(other), [(own, signs_of(own)) for own in (book, other)]
    if any([sign in rows[1][1] for sign in rows[0][1]]) or not lacks(both, form):
        raise CanNot()
    # Were there a needed TASK in each of these, one of form would be needed.
    out = []
    for place, part in spots(tupled(form)):
        for number, (own, signs) in enumerate(rows):
            whole = _with_own_signs(both, signs, part)
            if lacks(own, whole):
                out.append((number, whole))
    return out[0]


def _with_numbers(book, rows):
    """For each of rows the tuple of the SIDES of book with these numbers."""
    book = tupled(book)
    return tuple([tuple([book[number] for number in row]) for row in rows])


def _clashing(book):
    """All clashes of book, as ascending tuples of the numbers of their SIDES, ascending."""
    if not is_plain(book):
        raise CanNot()
    book, out = tupled(book), []
    for sign in first_signs(book):
        own = [number for number, side in enumerate(book) if own_sign(side) == sign]
        for size in range(1, len(own) + 1):
            for row in combinations(own, size):
                known = any([all([number in row for number in less]) for less in out])
                if not known and tree_of([book[number] for number in row], sign) is None:
                    out.append(row)
    return tuple(sorted(out))


def clashes(book):
    """The set of all sets of SIDES of book that do not always need, though each part of them does."""
    return _with_numbers(book, _clashing(book))


def healings(book):
    """The set of all least sets of SIDES without which book always needs."""
    return _with_numbers(book, least_blockers(_clashing(book)))


def turned_tasks(book, other, form):
    """The set of the PLACES that are TASKS of form by one of both BOOKS alone."""
    one, two = tasks(book, form), tasks(other, form)
    return tuple(sorted([place for place in one if place not in two] + [place for place in two if place not in one]))


def kept_house(book, other, house):
    """house with the most of its calls that can be made by the SIDES that both BOOKS have."""
    other, (plan, calls) = tupled(other), tupled(house)
    shared = tuple([side for side in tupled(book) if any([same(side, own) for own in other])])
    return most_made(shared, plan, calls).house()


def lost_calls(book, other, house):
    """The set of the cell names of the other calls of house."""
    kept = [cell for cell, reply in kept_house(book, other, house)[1]]
    return tuple([cell for cell, reply in tupled(house)[1] if cell not in kept])
