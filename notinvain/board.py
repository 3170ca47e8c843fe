"""A board of calls: they go out, and their REPLIES come from outside, one by one, in any order."""

from notinvain.blots import blot_of
from notinvain.cells import cells_of, check_size, checked_call, form_in, ready_in, sure_in, there_in
from notinvain.errors import CanNot, NothingDone
from notinvain.trees import same, tupled
from notinvain.worlds import wanted_in

_ROOT = (0,)


class Board:
    """A HOUSE of a BOOK whose calls go out and come back; each deed can be taken back, and done again."""

    def __init__(self, book, house):
        self._book = tupled(book)
        self._cells = cells_of(book, house)
        # A state is the calls of the HOUSE, the set of the CELLS that are out, and the LOG.
        self._state = (self._cells.house(), (), ())
        self._ahead, self._undone = [], []

    def _go(self, state):
        """Makes this the state."""
        if not same(state[0], self._cells.house()):
            self._cells = cells_of(self._book, state[0])
        self._state = state

    def _do(self, state):
        """Does a deed that leads to this state."""
        self._ahead.append(self._state)
        self._undone = []
        self._go(state)

    def _checked_out(self, cell):
        """cell, which ought to be out."""
        cell = there_in(self._cells, cell)
        if cell not in self._state[1]:
            raise CanNot()
        return cell

    def _without(self, cell):
        """The set of the CELLS that are out but for cell."""
        return tuple([own for own in self._state[1] if own != cell])

    def send(self, cell):
        """The call at cell goes out."""
        cell = checked_call(self._cells, cell)
        house, outs, log = self._state
        if cell in outs:
            raise CanNot()
        self._do((house, tuple(sorted(outs + (cell,))), log))

    def send_sure(self):
        """Sends each CELL that is sure and not out; the set of them."""
        row = tuple([cell for cell in self.sure() if cell not in self._state[1]])
        for cell in row:
            self.send(cell)
        return row

    def come(self, cell, reply):
        """The REPLY of the call at cell comes."""
        cell = self._checked_out(cell)
        self._cells.make(cell, tupled(reply))
        self._do((self._cells.house(), self._without(cell), self._state[2] + (cell,)))

    def recall(self, cell):
        """The call at cell, which is out, is given up."""
        cell = self._checked_out(cell)
        self._do((self._state[0], self._without(cell), self._state[2]))

    def undo(self):
        """Takes back the last deed that is not taken back."""
        if not self._ahead:
            raise NothingDone()
        self._undone.append(self._state)
        self._go(self._ahead.pop())

    def redo(self):
        """Does the deed again that was taken back last."""
        if not self._undone:
            raise NothingDone()
        self._ahead.append(self._state)
        self._go(self._undone.pop())

    def house(self):
        """The HOUSE."""
        return self._state[0]

    def out(self):
        """The set of the CELLS that are out."""
        return self._state[1]

    def log(self):
        """The LOG of the calls whose REPLIES came."""
        return self._state[2]

    def shown(self):
        """The BLOT of what stands in the root."""
        return blot_of(self._book, form_in(self._cells, _ROOT))

    def is_over(self):
        """Whether the HOUSE is ended."""
        return not ready_in(self._cells)

    def sure(self):
        """The set of the CELLS met that are OPEN or due, and sure."""
        check_size(self._cells, _ROOT)
        return sure_in(self._cells)

    def open_yet(self):
        """The set of the CELLS met that are OPEN or due, and not sure."""
        sure = self.sure()
        return tuple([cell for cell in ready_in(self._cells) if cell not in sure])

    def idle(self):
        """The set of the CELLS that could be called, but are not met."""
        cells = self._cells
        met = {cell: True for cell in cells.below(_ROOT)}
        return tuple([cell for cell in sorted(cells.own) if cell not in met and cells.is_free(cell)])

    def for_nothing(self):
        """The greatest set of CELLS called without whose calls the same CELLS are met."""
        kept = wanted_in(self._cells)
        return tuple([cell for cell in sorted(self._cells.replies) if cell not in kept])

    def _check_over(self):
        """CanNot, if the HOUSE is not ended."""
        if not self.is_over():
            raise CanNot()

    def wanted(self):
        """The set of the CELLS of the least part of the calls that leaves an ended HOUSE."""
        self._check_over()
        return wanted_in(self._cells)

    def in_vain(self):
        """The set of the CELLS called that are not wanted."""
        self._check_over()
        return self.for_nothing()

    def twin(self):
        """A BOARD with the same HOUSE, calls out and deeds."""
        other = Board(self._book, self._state[0])
        other._state = self._state
        other._ahead, other._undone = list(self._ahead), list(self._undone)
        return other
