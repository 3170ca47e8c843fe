"""Whether a BOOK always needs, or a least FORM that lacks; how many FORMS do; nests of them."""

from notinvain.blots import blot_of
from notinvain.books import first_signs, sides_with
from notinvain.errors import CanNot, TooMany
from notinvain.forms import has_name, is_form
from notinvain.lots import least_barring
from notinvain.rows import Grown, closed_table, is_closed, row_if_standing
from notinvain.runs import is_standing
from notinvain.trees import OPEN, is_pair, open_in, put_all, spots, tupled

_MOST_SIZE = 10
_MOST_PLACES = 300


def _row_lacks(row):
    """Whether the FORMS with this ROW lack: no task of theirs is needed, though they are no TERMS."""
    return row[0] > 0 and row[3] == ()


def always_needs(book):
    """Whether book always needs."""
    return least_form(book) is None


def lacks(book, form):
    """Whether form lacks."""
    row = row_if_standing(book, form)
    return row is not None and _row_lacks(row)


def is_struck(book, form):
    """Whether form is struck whole."""
    return is_standing(book, form) and blot_of(tupled(book), tupled(form)) == OPEN


def least_form(book):
    """The least of the FORMS with the fewest PLACES of all that lack; None if book always needs."""
    rows = [(len(spots(form)), form) for row, form in closed_table(book) if _row_lacks(row)]
    return min(rows)[1] if rows else None


def verdict(book):
    """("always", closed_table(book)), or ("lacks", least_form(book)) if book does not always need."""
    form = least_form(book)
    return ("always", closed_table(book)) if form is None else ("lacks", form)


def is_verdict(book, thing):
    """Whether thing is a closed table without a ROW that lacks, or a FORM that lacks, with the word for it."""
    if not is_pair(thing):
        return False
    word, paper = thing
    if word == "always":
        return is_closed(book, paper) and not any([_row_lacks(row) for row, form in paper])
    return word == "lacks" and is_form(paper) and not has_name(paper, "mark") and lacks(book, paper)


def lacking_signs(book):
    """The set of the SIGNS of SIDES whose SIDES alone are a BOOK that does not always need."""
    return tuple([sign for sign in first_signs(book) if not always_needs(sides_with(book, sign))])


def _ways(counts, picks, size):
    """How many rows of FORMS, one of each row of picks, have so many PLACES together."""
    ways = [1] + [0] * size
    for number in picks:
        own = counts[number]
        ways = [sum([ways[less] * own[most - less] for less in range(most + 1)]) for most in range(size + 1)]
    return ways[size]


def _counts(grown, size):
    """For each row of grown: how many FORMS of the book have it, by their number of PLACES, up to size."""
    number_of = {row: number for number, row in enumerate(grown.rows)}
    counts = [[0] * (size + 1) for row in grown.rows]
    for most in range(1, size + 1):
        if most == 1:
            counts[grown.forms.index(OPEN)][1] += 1
        for name, picks, row in grown.steps:
            if row is not None:
                counts[number_of[row]][most] += _ways(counts, picks, most - 1)
    return counts


def how_many(book, size):
    """How many FORMS of book with size PLACES are standing, are struck whole, lack."""
    grown = Grown(book)
    if size > _MOST_SIZE:
        raise TooMany()
    pairs = [(row, own[size]) for row, own in zip(grown.rows, _counts(grown, size))]
    struck = sum([many for row, many in pairs if row[0] == 2])
    return (sum([many for row, many in pairs]), struck, sum([many for row, many in pairs if _row_lacks(row)]))


def nest(form, depth):
    """OPEN, with form put at each OPEN PLACE, depth times."""
    form = tupled(form)
    if form == OPEN:
        return OPEN
    places, whole, left = open_in(form), OPEN, depth
    many = len(spots(form))
    size = 1
    # Without an OPEN PLACE all depths above 0 are alike.
    while left > 0 and (whole == OPEN or places):
        size = many - len(places) + len(places) * size
        if size > _MOST_PLACES:
            raise TooMany()
        whole, left = put_all(form, {place: whole for place in places}), left - 1
    return whole


def nest_lot(book, form, depth):
    """The OPEN PLACES of the nest that are depth PLACES of the least of the smallest barring LOTS."""
    if not is_struck(book, form):
        raise CanNot()
    lots = least_barring(book, form)
    fewest = min([len(lot) for lot in lots])
    lot = [own for own in lots if len(own) == fewest][0]
    nest(form, depth)
    out = [()]
    # The nest of OPEN is OPEN at all depths.
    for _ in range(depth if tupled(form) != OPEN else 0):
        out = [above + place for above in out for place in lot]
    return tuple(sorted(out))
