"""Lots of TASKS: which bar, which are enough, what they cost, and the share of a FORM.

Within, a LOT is told by a number: bit k of it is that of TASK k.
"""

from math import gcd

from notinvain.blots import blot_of
from notinvain.ends import made_end
from notinvain.errors import CanNot, TooMany, Unfit
from notinvain.forms import has_name
from notinvain.needs import marked
from notinvain.runs import skeleton, tasks
from notinvain.trees import ascending, is_number, is_numbers, is_pair, tupled

_MOST_TASKS = 10


def _mark_stays(book, form, lot):
    """Whether a mark is left of form, marked at lot."""
    return has_name(blot_of(tupled(book), marked(form, lot)), "mark")


def _checked_lot(book, form, lot):
    """lot, which ought to be a LOT of form."""
    lot = tupled(lot)
    marked(form, lot)
    places = tasks(book, form)
    if not all(place in places for place in lot):
        raise CanNot()
    return lot


def _left_out(book, form, lot):
    """The TASKS that are not in lot, which ought to be a LOT of form."""
    lot = _checked_lot(book, form, lot)
    return tuple([place for place in tasks(book, form) if place not in lot])


def bars(book, form, lot):
    """Whether lot bars."""
    return _mark_stays(book, form, _checked_lot(book, form, lot))


def is_enough(book, form, lot):
    """Whether lot is enough."""
    return not _mark_stays(book, form, _left_out(book, form, lot))


def run_within(book, form, lot):
    """A RUN to an END without CALLS at TASKS that are not in lot; None if lot is not enough."""
    rest = _left_out(book, form, lot)
    # No mark is ever called, and what fits above one fits above whatever stands there.
    return None if _mark_stays(book, form, rest) else made_end(book, marked(form, rest), "end")


def _few_tasks(book, form):
    """The TASKS of form, which may not be more than 10."""
    places = tasks(book, form)
    if len(places) > _MOST_TASKS:
        raise TooMany()
    return places


def _places_in(number, places):
    """Those of places that the bits of number tell."""
    return tuple([place for bit, place in enumerate(places) if (number >> bit) & 1])


def _without_one(number):
    """number with one of its bits taken off, for each of them."""
    out, bit = [], 1
    while bit <= number:
        if number & bit:
            out.append(number ^ bit)
        bit = bit * 2
    return out


def _barring(book, form, places):
    """For each LOT, by its number, whether it bars."""
    whole = skeleton(book, form)
    out = []
    for number in range(1 << len(places)):
        # What has a barring LOT within it bars.
        known = any([out[less] for less in _without_one(number)])
        out.append(known or _mark_stays(book, whole, _places_in(number, places)))
    return out


def _enough(book, form, places):
    """For each LOT, by its number, whether it is enough."""
    return [not own for own in _barring(book, form, places)[::-1]]


def _least(told, places):
    """The least of the LOTS for which told, a list by their numbers, has True: those that have more have it, too."""
    rows = []
    for number, own in enumerate(told):
        if own and not any([told[less] for less in _without_one(number)]):
            rows.append(_places_in(number, places))
    return tuple(sorted(rows))


def least_barring(book, form):
    """All least barring LOTS."""
    places = _few_tasks(book, form)
    return _least(_barring(book, form, places), places)


def least_enough(book, form):
    """All least enough LOTS."""
    places = _few_tasks(book, form)
    return _least(_enough(book, form, places), places)


def width(book, form):
    """How many TASKS the smallest barring LOT has; None if form is ended."""
    return min([len(lot) for lot in least_barring(book, form)], default=None)


def _cheapest(lots, places, prices):
    """The first of lots with the least sum of prices; None if there are no lots."""
    prices = tupled(prices)
    if len(prices) != len(places):
        raise Unfit()
    price_of = dict(zip(places, prices))
    rows = [(sum([price_of[place] for place in lot]), lot) for lot in lots]
    return min(rows)[1] if rows else None


def cheapest_barring(book, form, prices):
    """The first of the least barring LOTS with the least sum of prices; None if there is none."""
    return _cheapest(least_barring(book, form), tasks(book, form), prices)


def cheapest_enough(book, form, prices):
    """The first of the least enough LOTS with the least sum of prices; None if there is none."""
    return _cheapest(least_enough(book, form), tasks(book, form), prices)


def _first_table(lots, places):
    """The rows for _solved: one for each of places, then that of the sum, which is to be as great as can be.

    Columns: how often each of lots is taken, what is left at each of places, and the bound, 1.
    """
    rows = []
    for number, place in enumerate(places):
        taken = [1 if place in lot else 0 for lot in lots]
        left = [1 if number == other else 0 for other in range(len(places))]
        rows.append(taken + left + [1])
    rows.append([-1] * len(lots) + [0] * (len(places) + 1))
    return rows


def _row_to_leave(rows, base, column):
    """The row that bounds column the most; of those alike the one whose base comes first."""
    best = None
    for number in range(len(base)):
        if rows[number][column] <= 0:
            continue
        if best is None:
            best = number
            continue
        own, other = rows[number][-1] * rows[best][column], rows[best][-1] * rows[number][column]
        if own < other or own == other and base[number] < base[best]:
            best = number
    return best


def _turned_about(rows, number, column, under):
    """rows with column in the base of row number; all entries are over under, and over the new entry there then."""
    pivot = rows[number]
    out = []
    for other, row in enumerate(rows):
        if other == number:
            out.append(row)
            continue
        out.append([(own * pivot[column] - row[column] * by) // under for own, by in zip(row, pivot)])
    return out


def _solved(lots, places):
    """A weighing and a spread, both of the share: numbers for places and for lots; and the share."""
    rows, under = _first_table(lots, places), 1
    base = [len(lots) + number for number in range(len(places))]
    while min(rows[-1][:-1]) < 0:
        # The first column that can be bettered, and the first row of those alike: so it comes to an end.
        column = [number for number, own in enumerate(rows[-1][:-1]) if own < 0][0]
        number = _row_to_leave(rows, base, column)
        entry = rows[number][column]
        rows = _turned_about(rows, number, column, under)
        base[number], under = column, entry
    counts = [0] * len(lots)
    for number, column in enumerate(base):
        if column < len(lots):
            counts[column] = rows[number][-1]
    return rows[-1][len(lots):-1], counts, _shortened([under, rows[-1][-1]])


def _shortened(numbers):
    """The tuple of numbers, divided by what divides all of them."""
    common = 0
    for number in numbers:
        common = gcd(common, number)
    return tuple([number // common for number in numbers])


def share(book, form):
    """The share of form; None if it is ended."""
    lots = least_enough(book, form)
    return _solved(lots, tasks(book, form))[2] if lots != ((),) else None


def weighing(book, form):
    """A weighing that gives each enough LOT the share of form at least; None if it is ended."""
    lots = least_enough(book, form)
    return _shortened(_solved(lots, tasks(book, form))[0]) if lots != ((),) else None


def spread(book, form):
    """A spread that lays the share of form at most on each TASK; None if it is ended."""
    lots = least_enough(book, form)
    if lots == ((),):
        return None
    counts = _shortened(_solved(lots, tasks(book, form))[1])
    return tuple([(lot, number) for lot, number in zip(lots, counts) if number])


def is_weighing(book, form, thing):
    """Whether thing is a weighing that gives each enough LOT the share of form at least."""
    lots, places = least_enough(book, form), tasks(book, form)
    if not is_numbers(thing) or len(thing) != len(places) or not any(thing) or min(thing) < 0:
        return False
    top, bottom = _solved(lots, places)[2]
    weights, whole = dict(zip(places, thing)), sum(thing)
    return all([sum([weights[place] for place in lot]) * bottom >= top * whole for lot in lots])


def is_lot(thing, places):
    """Whether thing is a set of some of places."""
    if not isinstance(thing, tuple) or not all(is_numbers(place) and place in places for place in thing):
        return False
    return thing == ascending(thing)


def _is_spread(told, places, thing):
    """Whether thing is a spread; told tells, by its number, whether a LOT is enough."""
    if not isinstance(thing, tuple) or not thing or not all(is_pair(own) for own in thing):
        return False
    if not all(is_lot(lot, places) and is_number(number) and number >= 1 for lot, number in thing):
        return False
    lots = [lot for lot, number in thing]
    if tuple(lots) != ascending(lots):
        return False
    return all([told[sum([1 << places.index(place) for place in lot])] for lot in lots])


def is_spread(book, form, thing):
    """Whether thing is a spread that lays the share of form at most on each TASK."""
    places = _few_tasks(book, form)
    told = _enough(book, form, places)
    if not places or not _is_spread(told, places, thing):
        return False
    top, bottom = _solved(_least(told, places), places)[2]
    whole = sum([number for lot, number in thing])
    laid = [sum([number for lot, number in thing if place in lot]) for place in places]
    return all([own * bottom <= top * whole for own in laid])


def blockers(lots):
    """The least sets of PLACES that have one in common with each of lots."""
    lots = tupled(lots)
    if len(ascending([place for lot in lots for place in lot])) > _MOST_TASKS:
        raise TooMany()
    return least_blockers(lots)


def least_blockers(lots):
    """The least sets of what is in lots, of whatever kind, that have something in common with each of them."""
    places = ascending([place for lot in lots for place in lot])
    numbers = sorted(set([sum([1 << places.index(place) for place in lot]) for lot in lots]))
    told = []
    for own in range(1 << len(places)):
        told.append(all([own & number for number in numbers]))
    return _least(told, places)
