"""PLANS, REPLIES, and HOUSES of CELLS: what stands in a CELL, which are ready, what a call needs."""

from notinvain.books import parts_of
from notinvain.errors import CanNot, NoCell, NoPlace, TooMany
from notinvain.trees import OPEN, Cells, framed, is_name, is_number, is_numbers, is_pair, nodes_of, parts_met, side_met
from notinvain.trees import spots, tupled

_ROOT = (0,)
_MOST_PLACES = 300


def _is_plan_cell(thing, number, count):
    """Whether thing can be the cell of this number in a PLAN of so many."""
    if not isinstance(thing, tuple) or len(thing) > 4:
        return False
    if thing == OPEN:
        return True
    return is_name(thing[0]) and is_numbers(thing[1:]) and all([number < own < count for own in thing[1:]])


def is_plan(thing):
    """Whether thing is a PLAN."""
    if not isinstance(thing, tuple) or not thing:
        return False
    return all([_is_plan_cell(own, number, len(thing)) for number, own in enumerate(thing)])


def is_reply(thing):
    """Whether thing is a REPLY."""
    waiting = [thing]
    while waiting:
        part = waiting.pop()
        if is_number(part) and part >= 0:
            continue
        if not isinstance(part, tuple) or len(part) > 4 or part != OPEN and not is_name(part[0]):
            return False
        waiting.extend(part[1:])
    return True


def is_cell_name(thing):
    """Whether thing is a cell name."""
    return is_numbers(thing) and len(thing) > 0 and min(thing) >= 0


def is_pairs_by_cell(thing):
    """Whether thing is a set of pairs (cell name, reply) with unlike cell names."""
    if not isinstance(thing, tuple) or not all([is_pair(pair) for pair in thing]):
        return False
    if not all([is_cell_name(cell) and is_reply(reply) for cell, reply in thing]):
        return False
    return all([thing[number][0] < thing[number + 1][0] for number in range(len(thing) - 1)])


def most_made(book, plan, calls):
    """The CELLS of plan behind the most of calls that can be made in some order, for what is tuples throughout."""
    cells, waiting = Cells(book, plan), calls
    while waiting:
        left = []
        for cell, reply in waiting:
            if cell in cells.own and cells.is_free(cell):
                cells.make(cell, reply)
            else:
                left.append((cell, reply))
        if len(left) == len(waiting):
            break
        waiting = left
    return cells


def cells_of(book, house):
    """The CELLS of house."""
    plan, calls = tupled(house)
    return most_made(tupled(book), plan, calls)


def is_house(book, thing):
    """Whether thing is a HOUSE."""
    if not is_pair(thing) or not is_plan(thing[0]) or not is_pairs_by_cell(thing[1]):
        return False
    return len(most_made(tupled(book), thing[0], thing[1]).replies) == len(thing[1])


def plan_of(form):
    """The PLAN with a cell for each PLACE of form."""
    rows = spots(tupled(form))
    number_of = {}
    for number, (place, _) in enumerate(rows):
        number_of[place] = number
    out = []
    for place, part in rows:
        parts = [number_of[place + (own,)] for own in range(len(part) - 1)]
        out.append(part[:1] + tuple(parts))
    return tuple(out)


def node_of(reply, place):
    """The number of the node of reply at place."""
    reply, place = tupled(reply), tupled(place)
    count, node = 0, reply
    for number in place:
        if is_number(node) or not 0 <= number < len(node) - 1:
            raise NoPlace(place)
        count += 1 + sum([len(nodes_of(part)) for part in node[1:number + 1]])
        node = node[number + 1]
    return count


def all_cells(book, house):
    """The set of all CELLS of house."""
    return tuple(sorted(cells_of(book, house).own))


def there_in(cells, cell):
    """cell, which ought to be a CELL."""
    cell = tupled(cell)
    if cell not in cells.own:
        raise NoCell(cell)
    return cell


def own_cell(book, house, cell):
    """The own cell of cell."""
    cells = cells_of(book, house)
    return cells.own[there_in(cells, cell)]


def end_of(book, house, cell):
    """The CELL at the end of cell."""
    cells = cells_of(book, house)
    return cells.end(there_in(cells, cell))


def check_size(cells, cell):
    """TooMany, if what stands in cell has more than 300 PLACES."""
    sizes = {}
    for own in cells.below(cell):
        sizes[own] = 1 + sum([sizes[part] for part in cells.parts(own)])
    if sizes[cells.end(cell)] > _MOST_PLACES:
        raise TooMany()


def form_in(cells, cell):
    """What stands in cell, which has no more than 300 PLACES."""
    check_size(cells, cell)
    forms = {}
    for own in cells.below(cell):
        forms[own] = cells.own[own][:1] + tuple([forms[part] for part in cells.parts(own)])
    return forms[cells.end(cell)]


def cell_form(book, house, cell):
    """What stands in cell."""
    cells = cells_of(book, house)
    return form_in(cells, there_in(cells, cell))


def met_cells(book, house):
    """The set of the CELLS met."""
    return tuple(sorted(cells_of(book, house).below(_ROOT)))


def places_met(cells):
    """The pairs of a PLACE of what stands in the root and the CELL met there, ascending."""
    check_size(cells, _ROOT)
    waiting, rows = [((), cells.end(_ROOT))], []
    while waiting:
        place, cell = waiting.pop()
        rows.append((place, cell))
        parts = cells.parts(cell)
        waiting.extend([(place + (number,), parts[number]) for number in reversed(range(len(parts)))])
    return rows


def placed(book, house):
    """The list of the pairs of each PLACE of what stands in (0,) and the CELL met there."""
    return places_met(cells_of(book, house))


def cell_places(book, house, cell):
    """The set of the PLACES at which the CELL at the end of cell is met."""
    cells = cells_of(book, house)
    own = cells.end(there_in(cells, cell))
    return tuple([place for place, other in places_met(cells) if other == own])


def cell_side(book, house, cell):
    """The SIDE that fits cell; None if none does."""
    cells = cells_of(book, house)
    return cells.side(cells.end(there_in(cells, cell)))


def found_cells(book, house, cell):
    """The CELLS that the OPEN PLACES of the SIDE that fits cell have met."""
    cells = cells_of(book, house)
    return cells.found(cells.end(there_in(cells, cell)))


def ready_in(cells):
    """The set of the CELLS met that are OPEN or due."""
    return tuple(sorted([cell for cell in cells.below(_ROOT) if cells.is_free(cell)]))


def ready(book, house):
    """The set of the CELLS met that are OPEN or due."""
    return ready_in(cells_of(book, house))


def tasks_in(cells):
    """The set of the ready CELLS to which some way from the root leads without a due one above."""
    waiting, seen, out = [cells.end(_ROOT)], {}, []
    while waiting:
        cell = waiting.pop()
        if cell in seen:
            continue
        seen[cell] = True
        if cells.is_free(cell):
            out.append(cell)
        else:
            waiting.extend(cells.parts(cell))
    return tuple(sorted(out))


def tasks_of(book, house):
    """The set of the ready CELLS to which some way from the root leads without a due one above."""
    return tasks_in(cells_of(book, house))


def is_done(book, house):
    """Whether house is ended."""
    return not ready(book, house)


def checked_call(cells, cell):
    """cell, at which a call ought to be possible."""
    cell = there_in(cells, cell)
    if not cells.is_free(cell):
        raise CanNot()
    return cell


def with_call(book, house, cell, reply):
    """house with the call (cell, reply)."""
    cells = cells_of(book, house)
    cells.make(checked_call(cells, cell), tupled(reply))
    return cells.house()


def _needed_for(cells, cell):
    """The CELLS called for cell to be there, and to be due if it is not OPEN, without what these need."""
    out = [cell[:-1]] if len(cell) > 1 else []
    waiting = [(cells.side(cell) or OPEN, cell)]
    while waiting:
        part, at = waiting.pop()
        for own, below in zip(part[1:], cells.own[at][1:]):
            if own != OPEN:
                out.extend(cells.way(below))
                waiting.append((own, cells.end(below)))
    return out


def with_causes(cells, called):
    """The set of the CELLS of the list called, which were called, and of all their causes."""
    waiting, seen = list(called), {}
    while waiting:
        own = waiting.pop()
        if own not in seen:
            seen[own] = True
            waiting.extend(_needed_for(cells, own))
    return tuple(sorted(seen))


def causes_in(cells, cell):
    """The set of the CELLS called for cell to be there, and to be OPEN or due."""
    return with_causes(cells, _needed_for(cells, cell))


def causes(book, house, cell):
    """The set of the CELLS of the least part of the calls with which cell is there, and OPEN or due."""
    cells = cells_of(book, house)
    cell = there_in(cells, cell)
    if cell not in cells.links and not cells.is_free(cell):
        raise CanNot()
    return causes_in(cells, cell)


def _marks_over(frames, sign, parts, agrees, left):
    """What is left of the marks below a CELL with this SIGN over these CELLS, as sure_in tells it of all."""
    marks, out = {}, {}
    for part in parts:
        for mark in left[part]:
            marks[mark] = True
    for mark in marks:
        sets = [left[part].get(mark, agrees[part]) for part in parts]
        if not side_met(frames, sign, sets):
            out[mark] = parts_met(frames, sign, sets)
    return out


def sure_in(cells):
    """The set of the CELLS met that are OPEN or due, and sure."""
    frames = framed(cells.book, parts_of(cells.book))
    # By CELL: the PARTS that agree with the BLOT of what stands there; and, for each CELL with a mark
    # that is not struck out there, those that agree with the BLOT with this mark.
    agrees, left = {}, {}
    for cell in cells.below(_ROOT):
        if cells.is_free(cell):
            agrees[cell], left[cell] = frames[2], {cell: 0}
            continue
        parts = cells.parts(cell)
        sign, sets = (cells.own[cell][0], len(parts)), [agrees[part] for part in parts]
        agrees[cell] = frames[2] if side_met(frames, sign, sets) else parts_met(frames, sign, sets)
        left[cell] = _marks_over(frames, sign, parts, agrees, left)
    return tuple(sorted(left[cells.end(_ROOT)]))


def is_sure(book, house, cell):
    """Whether a mark at each PLACE of cell is not struck out of what stands in (0,)."""
    cells = cells_of(book, house)
    cell = cells.end(there_in(cells, cell))
    if not cells.is_free(cell):
        raise CanNot()
    check_size(cells, _ROOT)
    return cell in sure_in(cells)
