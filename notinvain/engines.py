"""ENGINES: which CELLS they go for, round by round, and what they call in vain."""

from itertools import combinations

from notinvain.books import parts_of
from notinvain.cells import cells_of, check_size, ready_in, sure_in, tasks_in
from notinvain.errors import NoCell, TooMany
from notinvain.trees import framed, is_numbers, is_pair, parts_met, side_met, tupled
from notinvain.worlds import make_round, replies_of, wanted_in

_ROOT = (0,)
_PLAIN = (("need",), ("sure",), ("left",), ("all",), ("lots",))
_MOST_TASKS = 10


def is_engine(thing):
    """Whether thing is an ENGINE."""
    if isinstance(thing, tuple) and thing in _PLAIN:
        return True
    return is_pair(thing) and thing[0] == "picks" and is_numbers(thing[1]) and min(thing[1], default=-1) >= 0


def sure_cells(book, house):
    """The set of the CELLS ready that are sure."""
    there = cells_of(book, house)
    check_size(there, _ROOT)
    return sure_in(there)


def _first_met(there, row):
    """The CELL of row that is met at the least PLACE."""
    waiting, seen = [there.end(_ROOT)], {}
    while waiting:
        cell = waiting.pop()
        if cell in row:
            return cell
        # What was gone through before has no CELL of row below it.
        if cell not in seen:
            seen[cell] = True
            waiting.extend(there.parts(cell)[::-1])
    return None


class Blots:
    """What is left of marks at some of these tasks in what stands in the root."""

    def __init__(self, there, tasks):
        self.there, self.frames = there, framed(there.book, parts_of(there.book))
        # By CELL a pair: the PARTS that agree with the BLOT of what stands there, and whether it has a mark.
        self.unmarked, self.touched = {}, []
        above = {cell: True for cell in tasks}
        for cell in there.below(_ROOT):
            self.unmarked[cell] = self._over(cell, self.unmarked)
            if cell not in above and not there.is_free(cell) and any([part in above for part in there.parts(cell)]):
                above[cell] = True
                self.touched.append(cell)

    def _over(self, cell, known):
        """The pair of cell, where known has those of its parts."""
        if self.there.is_free(cell):
            return (self.frames[2], False)
        parts = self.there.parts(cell)
        sign, sets = (self.there.own[cell][0], len(parts)), [known[part][0] for part in parts]
        if side_met(self.frames, sign, sets):
            return (self.frames[2], False)
        return (parts_met(self.frames, sign, sets), any([known[part][1] for part in parts]))

    def has_mark(self, row):
        """Whether some mark is left in the root, with marks at the tasks of row."""
        known = {cell: self.unmarked[cell] for cell in self.unmarked}
        for cell in row:
            known[cell] = (0, True)
        for cell in self.touched:
            known[cell] = self._over(cell, known)
        return known[self.there.end(_ROOT)][1]


def _block(there):
    """The block that ("lots",) goes for."""
    tasks = tasks_in(there)
    if len(tasks) > _MOST_TASKS:
        raise TooMany()
    blots = Blots(there, tasks)
    for size in range(1, len(tasks) + 1):
        for row in combinations(list(tasks), size):
            if blots.has_mark(row):
                return row
    return ()


def is_block(book, house, cells):
    """Whether cells are a block."""
    there, row = cells_of(book, house), tupled(cells)
    for cell in row:
        if cell not in there.own:
            raise NoCell(cell)
    check_size(there, _ROOT)
    tasks = tasks_in(there)
    return all([cell in tasks for cell in row]) and Blots(there, tasks).has_mark(row)


def _going(there, engine):
    """The set of the CELLS for which engine goes."""
    check_size(there, _ROOT)
    row = ready_in(there)
    if not row or engine == ("all",):
        return row
    if engine == ("lots",):
        return _block(there)
    if engine[0] == "picks":
        number = engine[1][len(there.replies) % len(engine[1])]
        return (row[number % len(row)],)
    own = row if engine == ("left",) else sure_in(there)
    if engine == ("sure",) and own:
        return own
    return (_first_met(there, own or row),)


def next_calls(book, house, engine):
    """The set of the CELLS for which engine goes."""
    return _going(cells_of(book, house), tupled(engine))


def _gone(book, house, world, engine):
    """The CELLS to which engine comes, and the list of its rounds."""
    there, engine, replies = cells_of(book, house), tupled(engine), replies_of(world)
    rows, count = [], 0
    row = _going(there, engine)
    while row:
        count = make_round(there, replies, row, count)
        rows.append(row)
        row = _going(there, engine)
    return (there, rows)


def rounds_by(book, house, world, engine):
    """The list of the sets of CELLS that engine calls, round by round."""
    return _gone(book, house, world, engine)[1]


def log_by(book, house, world, engine):
    """The LOG of all calls of engine."""
    return tuple([cell for row in rounds_by(book, house, world, engine) for cell in row])


def end_by(book, house, world, engine):
    """The HOUSE behind all calls of engine."""
    return _gone(book, house, world, engine)[0].house()


def spent_by(book, house, world, engine):
    """The set of the CELLS that engine calls in vain."""
    there, rows = _gone(book, house, world, engine)
    kept = wanted_in(there)
    return tuple(sorted([cell for row in rows for cell in row if cell not in kept]))


def race(book, house, world, row):
    """For each ENGINE of row how many calls it makes, and how many rounds it takes."""
    out = []
    for engine in tupled(row):
        rows = rounds_by(book, house, world, engine)
        out.append((sum([len(own) for own in rows]), len(rows)))
    return tuple(out)
