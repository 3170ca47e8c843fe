"""[21]: a BOARD of calls that go out and come back."""

import itertools
import random
import unittest

from notinvain.blots import blot
from notinvain.board import Board
from notinvain.cells import all_cells, cell_form, is_done, is_house, is_sure, met_cells, ready, with_call
from notinvain.ends import can_become
from notinvain.errors import CanNot, NoCell, NothingDone, TooMany
from notinvain.forms import lies_in
from notinvain.worlds import all_lots, in_vain, wanted
from tests.houses import BOOKS, CHAIN, RIGHT, THREE, Plain, houses, names_for, plain_bars, plain_of, random_reply, small
from tests.small import A, B, C, END, as_lists, mixed, plain_blot

FRESH = ((("f", 1, 2), (), ()), ())
LOOKS = ("house", "out", "log", "is_over", "shown", "sure", "open_yet", "idle", "for_nothing", "wanted", "in_vain")


def came(deed, *row):
    """What comes of a call: what it returns, or its error with what that keeps."""
    try:
        return ("returned", deed(*row))
    except (LookupError, ValueError) as error:
        return (type(error), vars(error))


def has_list(value):
    """Whether a list is in value."""
    return isinstance(value, list) or isinstance(value, tuple) and any(has_list(part) for part in value)


def looks(board):
    """What all looks tell."""
    return [came(getattr(board, name)) for name in LOOKS]


class PlainBoard:
    """A BOARD read straight from the words: its HOUSE is made anew of the deeds that are not taken back."""

    def __init__(self, book, house):
        self.book, self.start, self.deeds, self.undone = book, house, [], []

    def now(self):
        """The CELLS, the calls that are out, and the LOG."""
        plain, outs, log = plain_of(self.book, self.start), set(), []
        for word, cell, reply in self.deeds:
            if word == "send":
                outs.add(cell)
                continue
            outs.remove(cell)
            if word == "come":
                plain.call(cell, reply)
                log.append(cell)
        return plain, outs, log

    def do(self, word, cell, reply=None):
        plain, outs, _ = self.now()
        if cell not in plain.own:
            return NoCell
        if (not plain.free(cell) or cell in outs) if word == "send" else cell not in outs:
            return CanNot
        self.deeds.append((word, cell, reply))
        self.undone = []
        return None

    def undo(self):
        if not self.deeds:
            return NothingDone
        self.undone.append(self.deeds.pop())
        return None

    def redo(self):
        if not self.undone:
            return NothingDone
        self.deeds.append(self.undone.pop())
        return None

    def met(self, plain):
        """The CELLS met that are no links."""
        return set(plain.placed().values())

    def looks(self):
        """What all looks tell; for_nothing only of a HOUSE with few calls."""
        plain, outs, log = self.now()
        free = [cell for cell in sorted(plain.own) if plain.free(cell)]
        sure = [cell for cell in plain.ready() if plain_bars(self.book, plain, (cell,))]
        rows = [plain.house(), tuple(sorted(outs)), tuple(log), not plain.ready(), plain_blot(self.book, plain.stands((0,))),
                tuple(sure), tuple(cell for cell in plain.ready() if cell not in sure),
                tuple(cell for cell in free if cell not in self.met(plain))]
        return [("returned", row) for row in rows]

    def for_nothing(self):
        """The greatest set of CELLS called whose calls can be left out, with the same CELLS met."""
        plain, _, _ = self.now()
        calls, best = plain.house()[1], None
        for size in range(len(calls) + 1):
            for rest in itertools.combinations(calls, size):
                own = plain_of(self.book, (self.start[0], rest))
                if own is not None and self.met(own) == self.met(plain):
                    gone = {cell for cell, reply in calls} - {cell for cell, reply in rest}
                    if best is None:
                        best = gone
                    assert gone <= best
        return tuple(sorted(best))


class Examples(unittest.TestCase):

    def test_right(self):
        board = Board((("f", (), ("b",)),), ((("f", 1, 2), (), ()), ()))
        self.assertEqual((board.sure(), board.open_yet(), board.shown(), board.send_sure(), board.out()),
                         (((2,),), ((1,),), (), ((2,),), ((2,),)))
        self.assertEqual((board.send((1,)), board.come((1,), ("a",)), board.for_nothing(), board.house()[1]),
                         (None, None, (), (((1,), ("a",)),)))
        self.assertEqual((board.come((2,), ("b",)), board.sure(), board.send((0,)), board.come((0,), ("g", 0)), board.is_over(), board.log()),
                         (None, ((0,),), None, None, True, ((1,), (2,), (0,))))
        self.assertEqual((board.for_nothing(), board.wanted(), board.shown(), board.undo(), board.out(), board.redo(), board.is_over()),
                         ((), ((0,), (1,), (2,)), ("g", ("a",)), None, ((0,),), None, True))
        other = board.twin()
        self.assertEqual((other.undo(), other.come((0,), ("end",)), other.for_nothing(), other.in_vain(), board.in_vain()),
                         (None, None, ((1,),), ((1,),), ()))
        self.assertRaises(CanNot, other.send, (2,))


def random_deed(rnd, book, board, plain, names):
    """Does some deed at both; whether it was done alike."""
    now, outs, _ = plain.now()
    cells = sorted(now.own)
    word, cell = rnd.choice(("send", "send", "come", "come", "come", "recall", "undo", "redo", "sure")), rnd.choice(cells + [(7, 7)])
    if word in ("come", "recall") and outs and rnd.random() < 0.85:
        cell = rnd.choice(sorted(outs))
    if word == "undo":
        return came(board.undo), plain.undo()
    if word == "redo":
        return came(board.redo), plain.redo()
    if word == "sure":
        row = [cell for cell in now.ready() if cell not in outs and plain_bars(book, now, (cell,))]
        for cell in row:
            plain.do("send", cell)
        return came(board.send_sure), tuple(row)
    if word == "come":
        reply = random_reply(rnd, names, 1)
        return came(board.come, cell, reply), plain.do("come", cell, reply)
    return came(getattr(board, word), cell), plain.do(word, cell)


class Deeds(unittest.TestCase):

    def check_told(self, told, own, cell=None):
        """What came of a deed, beside what the plain one tells."""
        if own in (NoCell, CanNot, NothingDone):
            self.assertIs(told[0], own)
        else:
            self.assertEqual(told, ("returned", own))

    def test_beside_plain_ones(self):
        rnd, done = random.Random(1), {}
        for number, (book, house, _) in enumerate(houses(2, 350, 5, 3)):
            board, plain, names = Board(book, house), PlainBoard(book, house), names_for(book)
            for _ in range(14):
                if not small(plain.now()[0], 50):
                    break
                before = looks(board)
                told, own = random_deed(rnd, book, board, plain, names)
                self.check_told(told, own)
                if own in (NoCell, CanNot, NothingDone):
                    self.assertEqual(looks(board), before)
                done[own if isinstance(own, type) else tuple] = done.get(own if isinstance(own, type) else tuple, 0) + 1
                if not small(plain.now()[0], 50):
                    break
                self.assertEqual(looks(board)[:8], plain.looks())
                self.assertIs(is_house(book, board.house()), True)
                self.check_ends(book, board, plain)
        self.assertTrue(all(done[own] > 20 for own in (NoCell, CanNot, NothingDone, tuple)))

    def check_ends(self, book, board, plain):
        """The looks that tell of calls that are wanted or not."""
        now, _, _ = plain.now()
        if len(now.made) <= 5:
            self.assertEqual(board.for_nothing(), plain.for_nothing())
        if board.is_over():
            self.assertEqual((board.wanted(), board.in_vain()), (wanted(book, board.house()), in_vain(book, board.house())))
            self.assertEqual(board.in_vain(), board.for_nothing())
        else:
            self.assertRaises(CanNot, board.wanted)
            self.assertRaises(CanNot, board.in_vain)
        self.assertEqual(board.open_yet(), tuple(cell for cell in ready(book, board.house()) if not is_sure(book, board.house(), cell)))

    def test_undo_and_redo(self):
        """Taken back one by one, and done again, all looks are as they were."""
        rnd = random.Random(3)
        for book, house, _ in houses(4, 90, 5, 2):
            board, plain, names = Board(book, house), PlainBoard(book, house), names_for(book)
            states = [looks(board)]
            for _ in range(10):
                if not small(plain.now()[0], 40):
                    break
                many = len(plain.deeds)
                told, own = random_deed(rnd, book, board, plain, names)
                if len(plain.deeds) == many + 1 and not plain.undone:
                    states.append(looks(board))
                else:
                    break
            many = len(plain.deeds)
            own, states = [looks(board)], []
            while came(board.undo)[0] == "returned":
                own.append(looks(board))
            self.assertEqual(len(own), many + 1)
            self.assertEqual(own[-1], looks(Board(book, house)))
            self.assertRaises(NothingDone, board.undo)
            for before in own[-2::-1]:
                self.assertIsNone(board.redo())
                self.assertEqual(looks(board), before)
            undone = len(plain.undone)
            for _ in range(undone):
                self.assertIsNone(board.redo())
            self.assertRaises(NothingDone, board.redo)

    def test_deed_behind_undo(self):
        board = Board(RIGHT, FRESH)
        board.send((1,))
        board.send((2,))
        board.undo()
        board.undo()
        board.redo()
        self.assertEqual(board.out(), ((1,),))
        board.recall((1,))
        self.assertRaises(NothingDone, board.redo)
        board.undo()
        self.assertEqual(board.out(), ((1,),))
        board.redo()
        self.assertEqual(board.out(), ())
        board.undo()
        # A deed that is refused is none, and leaves what was taken back.
        self.assertRaises(CanNot, board.send, (1,))
        self.assertRaises(CanNot, board.come, (2,), A)
        self.assertRaises(NoCell, board.recall, (9,))
        board.redo()
        self.assertEqual(board.out(), ())

    def test_send_sure(self):
        board = Board(RIGHT, FRESH)
        board.send((1,))
        board.undo()
        self.assertEqual((board.send_sure(), board.out()), (((2,),), ((2,),)))
        self.assertRaises(NothingDone, board.redo)
        board.undo()
        board.redo()
        board.come((2,), C)
        self.assertEqual((board.sure(), board.send_sure(), board.out()), (((1,),), ((1,),), ((1,),)))
        board.undo()
        self.assertEqual((board.out(), board.log()), ((), ((2,),)))
        board.redo()
        # With nothing sure that is not out no deed is done: what was taken back can be done again yet.
        self.assertEqual(board.out(), ((1,),))
        board.recall((1,))
        board.undo()
        self.assertEqual(board.send_sure(), ())
        board.redo()
        self.assertEqual(board.out(), ())
        board = Board(THREE, ((("f", 1, 2, 3), (), (), ()), ()))
        self.assertEqual((board.send_sure(), board.sure()), ((), ()))
        self.assertRaises(NothingDone, board.undo)
        house = ((("k", 1, 2, 3), (), (), ()), ())
        board = Board(RIGHT, house)
        board.send((2,))
        self.assertEqual((board.sure(), board.send_sure()), (((1,), (2,), (3,)), ((1,), (3,))))
        board.undo()
        self.assertEqual(board.out(), ((1,), (2,)))
        board.undo()
        self.assertEqual(board.out(), ((2,),))
        self.assertEqual(board.send_sure(), ((1,), (3,)))

    def test_errors(self):
        board = Board(RIGHT, ((("f", 1, 2), (), ("f", 1, 3), B), ()))
        for deed in (board.send, board.recall, lambda cell: board.come(cell, A)):
            for cell in ((4,), (0, 0), (7, 1), [9]):
                with self.assertRaises(NoCell) as caught:
                    deed(cell)
                self.assertEqual(caught.exception.cell, tuple(cell))
        for deed in (lambda: board.send((3,)), lambda: board.send((0,)), lambda: board.recall((2,)), lambda: board.come((2,), A),
                     lambda: board.recall((3,)), lambda: board.come((3,), A), board.wanted, board.in_vain):
            self.assertRaises(CanNot, deed)
        board.send((2,))
        self.assertRaises(CanNot, board.send, (2,))
        board.come((2,), ("g", 0))
        for deed in (lambda: board.send((2,)), lambda: board.recall((2,)), lambda: board.come((2,), A)):
            self.assertRaises(CanNot, deed)
        self.assertEqual(board.house()[1], (((2,), ("g", 0)),))

    def test_none_but_send_sure_returns(self):
        board = Board(RIGHT, FRESH)
        told = [board.send((1,)), board.recall((1,)), board.send((2,)), board.come((2,), B), board.undo(), board.redo()]
        self.assertEqual(told, [None] * 6)

    def test_ended_from_the_beginning(self):
        for house in (((A,), ()), ((("g", 1), A), ()), (((),), (((0,), A),))):
            board = Board(THREE, house)
            self.assertEqual((board.is_over(), board.sure(), board.open_yet(), board.send_sure(), board.out(), board.log()),
                             (True, (), (), (), (), ()))
            self.assertEqual((board.shown(), board.house()), (cell_form(THREE, house, (0,)), house))
            self.assertEqual((board.wanted(), board.in_vain()), (tuple(cell for cell, reply in house[1]), ()))
            self.assertRaises(NothingDone, board.undo)
            self.assertRaises(NothingDone, board.redo)

    def test_out_and_met_no_more(self):
        board = Board(RIGHT, FRESH)
        for cell in ((1,), (2,)):
            board.send(cell)
        board.come((2,), B)
        board.send((0,))
        board.come((0,), A)
        self.assertEqual((board.is_over(), board.out(), board.idle()), (True, ((1,),), ((1,),)))
        board.come((1,), C)
        self.assertEqual((board.out(), board.idle(), board.for_nothing(), board.in_vain(), board.log()),
                         ((), (), ((1,),), ((1,),), ((2,), (0,), (1,))))
        board.undo()
        board.recall((1,))
        self.assertEqual((board.out(), board.idle(), board.is_over()), ((), ((1,),), True))

    def test_idle_from_the_beginning(self):
        plan = (("g", 1), A, (), ("f", 2, 4), B)
        board = Board(RIGHT, (plan, ()))
        self.assertEqual((board.idle(), board.is_over()), (((2,), (3,)), True))
        board.send((3,))
        board.come((3,), ("g", ()))
        self.assertEqual((board.idle(), board.for_nothing()), (((2,), (3, 1)), ((3,),)))

    def test_calls_of_the_beginning(self):
        house = (FRESH[0], (((1,), A), ((2,), B)))
        board = Board(RIGHT, house)
        self.assertEqual((board.log(), board.for_nothing()), ((), ()))
        board.send((0,))
        board.come((0,), END)
        self.assertEqual((board.log(), board.for_nothing(), board.wanted()), (((0,),), ((1,),), ((0,), (2,))))
        self.assertEqual([came(board.undo)[0] for _ in range(3)], ["returned", "returned", NothingDone])
        self.assertEqual(board.house(), house)


class Guarantees(unittest.TestCase):

    def test_out_stays_open_or_due(self):
        rnd = random.Random(5)
        for book, house, plain in houses(6, 250, 5, 3):
            board, names = Board(book, house), names_for(book)
            for cell in all_cells(book, house):
                if plain.free(cell):
                    board.send(cell)
            outs = list(board.out())
            rnd.shuffle(outs)
            shown = [board.shown()]
            for cell in outs:
                if not small(plain, 60):
                    break
                reply = random_reply(rnd, names, 1)
                board.come(cell, reply)
                plain.call(cell, reply)
                shown.append(board.shown())
                for other in board.out():
                    self.assertTrue(plain.free(other))
            for one, two in itertools.combinations(shown, 2):
                self.assertTrue(lies_in(one, two))
            self.assertEqual(board.house(), plain.house())

    def test_any_order(self):
        """REPLIES in any order in which they can come leave one HOUSE."""
        rnd = random.Random(7)
        for book, house, plain in houses(8, 150, 5, 5):
            if len(house[1]) < 2:
                continue
            for _ in range(3):
                board, left = Board(book, (house[0], ())), list(house[1])
                while left:
                    rnd.shuffle(left)
                    for cell, reply in list(left):
                        if came(board.send, cell)[0] == "returned":
                            left.remove((cell, reply))
                    for cell in rnd.sample(board.out(), max(1, len(board.out()) - 1)):
                        board.come(cell, dict(house[1])[cell])
                for cell in board.out():
                    board.come(cell, dict(house[1])[cell])
                self.assertEqual(board.house(), house)
                self.assertEqual(sorted(board.log()), [cell for cell, reply in house[1]])

    def ends_of(self, rnd, book, house, names, many):
        """Ended HOUSES that come of house."""
        out = []
        for _ in range(many):
            plain = plain_of(book, house)
            while plain.ready() and len(plain.made) < 25 and small(plain, 50):
                free = [cell for cell in sorted(plain.own) if plain.free(cell)]
                cell = rnd.choice(plain.ready() + free)
                plain.call(cell, random_reply(rnd, names, 1) if rnd.random() < 0.35 else rnd.choice((END, A, B, 0)))
            if not plain.ready():
                out.append(plain.house())
        return out

    def test_sure_and_for_nothing(self):
        """What is sure is wanted in all ends, what is for nothing is in vain in all of them, nothing else called is."""
        rnd, many, spared = random.Random(9), 0, 0
        for book, house, plain in houses(10, 260, 5, 5):
            board, names = Board(book, house), names_for(book)
            ends = self.ends_of(rnd, book, house, names, 25) + self.ends_with_all_shown(book, house)
            shown, vain = board.shown(), [cell for cell, reply in house[1]]
            for end in ends:
                self.assertTrue(lies_in(shown, cell_form(book, end, (0,))))
                called, spent = [cell for cell, reply in end[1]], in_vain(book, end)
                for cell in board.sure():
                    self.assertIn(cell, called)
                    self.assertIn(cell, wanted(book, end))
                for cell in board.for_nothing():
                    self.assertIn(cell, spent)
                vain = [cell for cell in vain if cell in spent]
                for cell in board.idle():
                    self.assertNotIn(cell, met_cells(book, end))
            if ends:
                many += 1
                spared += len(board.for_nothing())
                self.assertLessEqual(set(board.for_nothing()), set(vain))
                self.check_nothing_else(book, board, house, vain)
        self.assertGreater(many, 200)
        self.assertGreater(spared, 40)

    def ends_with_all_shown(self, book, house):
        """An end in which all that OPEN PLACES have met is kept, where that comes to one."""
        plain = plain_of(book, house)
        for _ in range(12):
            if not plain.ready() or not small(plain, 40):
                break
            for cell in plain.ready():
                if plain.free(cell):
                    many = len(plain.found(cell))
                    plain.call(cell, ("k",) + tuple(range(many))[:3] if many else END)
        return [] if plain.ready() else [plain.house()]

    def check_nothing_else(self, book, board, house, vain):
        """What is in vain in all the ends gone through is for nothing, where an end was found that keeps all."""
        if self.ends_with_all_shown(book, house) and all(len(side) <= 4 for side in book):
            kept = [cell for cell in vain if cell not in board.for_nothing()]
            self.assertEqual(kept, [], (book, house))

    def test_lots(self):
        """The calls that are not for nothing lie in each lot that leaves the same CELLS met."""
        for book, house, plain in houses(11, 200, 4, 6):
            board = Board(book, house)
            kept = {cell for cell, reply in house[1]} - set(board.for_nothing())
            for lot in all_lots(book, house):
                own = (house[0], tuple(pair for pair in house[1] if pair[0] in lot))
                if met_cells(book, own) == met_cells(book, house):
                    self.assertLessEqual(kept, set(lot))

    def test_shown_becomes(self):
        for book, house, plain in houses(12, 100, 4, 4):
            board = Board(book, house)
            self.assertEqual(board.shown(), blot(book, cell_form(book, house, (0,))))
            self.assertIs(can_become(book, cell_form(book, house, (0,)), board.shown()), True)
            self.assertEqual(board.is_over(), is_done(book, house))


class Twins(unittest.TestCase):

    def test_twins(self):
        rnd = random.Random(13)
        for book, house, _ in houses(14, 120, 5, 2):
            board, plain, names = Board(book, house), PlainBoard(book, house), names_for(book)
            for _ in range(8):
                if small(plain.now()[0], 30):
                    random_deed(rnd, book, board, plain, names)
            before, other = looks(board), board.twin()
            self.assertEqual(looks(other), before)
            self.assertIsInstance(other, Board)
            twin = PlainBoard(book, house)
            twin.deeds, twin.undone = list(plain.deeds), list(plain.undone)
            for _ in range(8):
                if small(twin.now()[0], 30):
                    told, own = random_deed(rnd, book, other, twin, names)
                    self.assertEqual(told[0] if isinstance(own, type) else told[1], own)
            self.assertEqual(looks(board), before)
            if small(twin.now()[0], 30):
                self.assertEqual(looks(other)[:8], twin.looks())
            # Also what was taken back is the twin's own.
            own, undone = board.twin(), len(plain.undone)
            self.assertEqual([came(own.redo)[0] for _ in range(undone + 1)], ["returned"] * undone + [NothingDone])
            self.assertEqual([came(board.undo)[0] for _ in range(len(plain.deeds) + 1)], ["returned"] * len(plain.deeds) + [NothingDone])


class Bounds(unittest.TestCase):

    def test_three_hundred_places(self):
        plan = (("k", 1, 9), ("k", 2, 2)) + tuple(("k", number + 1, number + 1) for number in range(2, 8)) + ((), ())
        house, at = (plan, ()), (9,)
        for _ in range(43):
            house = with_call(RIGHT, house, at, ("g", ()))
            at = at + (1,)
        board = Board(RIGHT, house)
        self.assertEqual((board.sure(), board.open_yet(), len(board.shown())), (((8,), at), (), 3))
        self.assertEqual(board.send_sure(), ((8,), at))
        board.come(at, ("g", ()))
        deeds = (board.shown, board.sure, board.open_yet, board.send_sure)
        before = [came(look) for look in (board.house, board.out, board.log, board.is_over, board.idle, board.for_nothing)]
        for deed in deeds:
            self.assertRaises(TooMany, deed)
        self.assertEqual([came(look) for look in (board.house, board.out, board.log, board.is_over, board.idle, board.for_nothing)], before)
        self.assertEqual((board.is_over(), board.idle(), board.for_nothing()), (False, (), ()))
        self.assertRaises(CanNot, board.wanted)
        board.come((8,), A)
        board.send(at + (1,))
        board.come(at + (1,), A)
        self.assertEqual((board.is_over(), len(board.wanted())), (True, 46))
        for deed in deeds:
            self.assertRaises(TooMany, deed)
        for _ in range(4):
            board.undo()
        self.assertEqual(board.sure(), ((8,), at))

    def test_sixty_calls(self):
        plan = tuple(("f", number + 1, 19) for number in range(18)) + ((), B)
        self.assertEqual(len(plan), 20)
        board, at = Board(RIGHT, (plan, ())), (18,)
        for _ in range(40):
            self.assertIn(at, board.sure() + board.open_yet())
            board.send(at)
            board.come(at, ("g", ()))
            at = at + (1,)
        for number in range(17, -1, -1):
            board.send((number,))
            board.come((number,), 0)
        self.assertEqual((len(board.house()[1]), board.is_over()), (58, False))
        self.assertEqual(board.sure(), (at,))
        for _ in range(116):
            board.undo()
        self.assertEqual(board.house(), (plan, ()))

    def test_lists(self):
        board, other = Board(RIGHT, FRESH), Board(as_lists(RIGHT), mixed(FRESH))
        for own in (board, other, Board(house=FRESH, book=RIGHT)):
            own.send([2])
            own.send(cell=(1,))
            own.come([2], ["b"])
            own.come(reply=("g", ()), cell=[1])
            own.send([0])
            own.recall([0])
            self.assertEqual(looks(own), looks(board))
        for own in (board, other):
            self.assertFalse(any(has_list(told[1]) for told in looks(own)[:-2]))

    def test_changed_afterwards(self):
        book, house, reply, cell = as_lists(RIGHT), as_lists(FRESH), ["g", []], [1]
        board = Board(book, house)
        book[0][0], house[0][1] = "h", ["a"]
        board.send(cell)
        board.come(cell, reply)
        cell[0], reply[0] = 2, "f"
        self.assertEqual((board.house(), board.log(), board.sure()), ((FRESH[0], (((1,), ("g", ())),)), ((1,),), ((2,),)))
        board.undo()
        self.assertEqual(board.out(), ((1,),))
        board.redo()
        self.assertEqual(board.house()[1], (((1,), ("g", ())),))

    def test_again(self):
        for book, house, _ in houses(15, 40, 4, 4):
            board = Board(book, house)
            self.assertEqual(looks(board), looks(board))


if __name__ == "__main__":
    unittest.main()
