"""WORLDS, which tell each REPLY: what calls lead to, which are wanted, and in how many rounds they can be made."""

from notinvain.cells import causes_in, cells_of, checked_call, is_pairs_by_cell, ready_in, with_causes
from notinvain.errors import CanNot, TooMany, Unfit
from notinvain.trees import ascending, is_numbers, same, tupled

_ROOT = (0,)
_NOTHING = ("end",)
_MOST_CALLS = 60
_MOST_FREE = 10


def is_world(thing):
    """Whether thing is a WORLD."""
    return is_pairs_by_cell(thing)


def replies_of(world):
    """The REPLIES of world, a dict by cell name."""
    return dict(list(tupled(world)))


def reply_at(world, cell):
    """The REPLY of world at cell."""
    return replies_of(world).get(tupled(cell), _NOTHING)


def house_led(book, house, world, log):
    """The HOUSE behind the calls of log."""
    cells, replies = cells_of(book, house), replies_of(world)
    for cell in tupled(log):
        cells.make(checked_call(cells, cell), replies.get(cell, _NOTHING))
    return cells.house()


def make_round(cells, replies, row, count):
    """Makes the calls at the CELLS of row, where so many were made ahead; returns how many that are then."""
    if count + len(row) > _MOST_CALLS:
        raise TooMany()
    for cell in row:
        cells.make(cell, replies.get(cell, _NOTHING))
    return count + len(row)


def _rounds_in(cells, world):
    """The rounds of all ready CELLS, which are called, until all is ended."""
    replies, rows, count = replies_of(world), [], 0
    row = ready_in(cells)
    while row:
        count = make_round(cells, replies, row, count)
        rows.append(row)
        row = ready_in(cells)
    return rows


def rounds(book, house, world):
    """The list of the sets of all ready CELLS, which are called round by round, until the HOUSE is ended."""
    return _rounds_in(cells_of(book, house), world)


def _cells_behind(book, house, world, lot):
    """The CELLS behind calls at just those of lot, in some order; None if they cannot be made."""
    cells, replies, waiting = cells_of(book, house), replies_of(world), tupled(lot)
    while waiting:
        left = []
        for cell in waiting:
            if cell in cells.own and cells.is_free(cell):
                cells.make(cell, replies.get(cell, _NOTHING))
            else:
                left.append(cell)
        if len(left) == len(waiting):
            return None
        waiting = left
    return cells


def can_make(book, house, world, lot):
    """Whether calls at just the CELLS of lot can be made in some order."""
    return _cells_behind(book, house, world, lot) is not None


def lot_ends(book, house, world, lot):
    """Whether calls at just the CELLS of lot can be made, and end the HOUSE."""
    cells = _cells_behind(book, house, world, lot)
    return cells is not None and not ready_in(cells)


def least_lot(book, house, world):
    """The further lot that ends and lies in each one that ends."""
    cells = cells_of(book, house)
    called = {cell: True for cell in cells.replies}
    _rounds_in(cells, world)
    return tuple([cell for cell in wanted_in(cells) if cell not in called])


def wanted_in(cells):
    """The set of the CELLS called that what stands in the root, which is ended, cannot do without."""
    read = cells.way(_ROOT)
    for cell in cells.below(_ROOT):
        for part in cells.own[cell][1:]:
            read.extend(cells.way(part))
    return with_causes(cells, read)


def _ended_cells(book, house):
    """The CELLS of house, which ought to be ended."""
    cells = cells_of(book, house)
    if ready_in(cells):
        raise CanNot()
    return cells


def wanted(book, house):
    """The set of the CELLS of the least part of the calls of house that leaves an ended HOUSE."""
    return wanted_in(_ended_cells(book, house))


def in_vain(book, house):
    """The set of the CELLS called in house that are not wanted."""
    cells = _ended_cells(book, house)
    kept = wanted_in(cells)
    return tuple([cell for cell in sorted(cells.replies) if cell not in kept])


def orders(book, house):
    """The set of the pairs of CELLS called, the first one among the causes of the second one."""
    cells = cells_of(book, house)
    return tuple(sorted([(one, other) for other in cells.replies for one in causes_in(cells, other)]))


def _chains_of(cells, kept):
    """For each CELL of kept how many CELLS the longest chain of them has that begins there; and all their causes."""
    own = {cell: causes_in(cells, cell) for cell in kept}
    lengths = {}
    # What is called behind others has more causes than each of them.
    for _, cell in sorted([(-len(own[name]), name) for name in kept]):
        lengths[cell] = 1 + max([lengths[other] for other in lengths if cell in own[other]], default=0)
    return lengths, own


def longest_chain(book, house):
    """The least of the longest tuples of CELLS wanted, each among the causes of the next."""
    cells = _ended_cells(book, house)
    kept = wanted_in(cells)
    lengths, own = _chains_of(cells, kept)
    out = []
    for left in reversed(range(max(list(lengths.values()), default=0))):
        more = [cell for cell in kept if lengths[cell] == left + 1 and (not out or out[-1] in own[cell])]
        out.append(more[0])
    return tuple(out)


def _checked_hands(book, house, hands):
    """The CELLS of house, which ought to be ended, for one hand or more."""
    if hands < 1:
        raise Unfit()
    return _ended_cells(book, house)


def by_hands(book, house, hands):
    """The rounds in which so many hands can call the CELLS wanted, first those that a long chain waits for."""
    cells = _checked_hands(book, house, hands)
    left = wanted_in(cells)
    lengths, own = _chains_of(cells, left)
    done, out = {}, []
    while left:
        free = [cell for cell in left if all([other in done for other in own[cell]])]
        row = sorted([(-lengths[cell], cell) for cell in free])[:hands]
        for _, cell in row:
            done[cell] = True
        out.append(tuple(sorted([cell for _, cell in row])))
        left = [cell for cell in left if cell not in done]
    return tuple(out)


def _is_set_of(thing, kept):
    """Whether thing is a set, not (), of CELLS of kept."""
    if not isinstance(thing, tuple) or not thing:
        return False
    return all([is_numbers(cell) and cell in kept for cell in thing]) and thing == ascending(thing)


def are_rounds(book, house, hands, thing):
    """Whether thing are rounds in which so many hands can call the CELLS wanted."""
    cells = _checked_hands(book, house, hands)
    kept = wanted_in(cells)
    if not isinstance(thing, tuple) or not all([_is_set_of(row, kept) for row in thing]):
        return False
    done = {}
    for row in thing:
        if len(row) > hands or any([cell in done for cell in row]):
            return False
        if not all([other in done for cell in row for other in causes_in(cells, cell)]):
            return False
        for cell in row:
            done[cell] = True
    return len(done) == len(kept)


def all_lots(book, house):
    """The set of the sets of CELLS, parts of the calls of house, that leave a HOUSE."""
    cells = cells_of(book, house)
    if len(cells.replies) > _MOST_FREE:
        raise TooMany()
    found = {(): True}
    waiting = [()]
    own = {cell: causes_in(cells, cell) for cell in cells.replies}
    while waiting:
        lot = waiting.pop()
        for cell in own:
            more = tuple(sorted(lot + (cell,)))
            if cell not in lot and more not in found and all([other in lot for other in own[cell]]):
                found[more] = True
                waiting.append(more)
    return tuple(sorted(found))


def _both_calls(house, other):
    """The calls of two HOUSES as dicts, for equal PLANS, and equal REPLIES where both have called."""
    (plan, calls), (second, more) = tupled(house), tupled(other)
    one, two = dict(list(calls)), dict(list(more))
    if plan != second or any([not same(one[cell], two[cell]) for cell in one if cell in two]):
        raise Unfit()
    return (plan, one, two)


def shared_house(book, house, other):
    """The HOUSE of the calls that both have."""
    plan, one, two = _both_calls(house, other)
    return (plan, tuple([(cell, one[cell]) for cell in sorted(one) if cell in two]))


def joined_house(book, house, other):
    """The HOUSE of the calls that one or both have."""
    plan, one, two = _both_calls(house, other)
    for cell in two:
        one[cell] = two[cell]
    return (plan, tuple([(cell, one[cell]) for cell in sorted(one)]))
