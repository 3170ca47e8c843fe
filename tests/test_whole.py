"""[1]: guarantees of the whole document, which cross its points."""

import random
import unittest

from notinvain.always import always_needs, is_verdict, least_form, verdict
from notinvain.blots import blot
from notinvain.board import Board
from notinvain.cells import causes, cell_form, is_done, placed, plan_of, tasks_of, with_call
from notinvain.code import book_code, run_code
from notinvain.desk import replies
from notinvain.ends import is_end_of, made_end
from notinvain.engines import end_by, log_by, next_calls, race, rounds_by, spent_by
from notinvain.errors import TooMany
from notinvain.foes import Foe, Quickfoe, is_seed, quick_costs
from notinvain.forms import met_form
from notinvain.judge import is_paper_against, is_reason_for, paper_against, reason_for, stands
from notinvain.looks import has_trees
from notinvain.lots import least_barring, least_enough
from notinvain.needs import needed_tasks
from notinvain.runs import is_ended, led, tasks
from notinvain.texts import cell_word, house_text, read_house, read_world, reply_word, world_text
from notinvain.worlds import all_lots, by_hands, house_led, least_lot, longest_chain, lot_ends, wanted
from tests.houses import BOOKS, NoHouse, houses, plain_of, random_world
from tests.seeds import KEYS, random_form
from tests.small import A, B, END, plain_blot, plain_lies, plain_needed, plain_signs, plain_spots
from tests.test_follows import random_books

ONE = (((),), ())
NEED, SURE, LEFT, ALL, LOTS = ("need",), ("sure",), ("left",), ("all",), ("lots",)
ENGINES = (NEED, SURE, LEFT, ALL, LOTS, ("picks", (1, 0, 5)))


def told_of(books):
    """Which of these BOOKS always need, and which do not; without those of too many ROWS."""
    always, others = [], []
    for book in books:
        try:
            (always if always_needs(book) else others).append(book)
        except TooMany:
            continue
    return always, others


def turned(x, y, z):
    """Three SIDES, each two unlike at one PLACE, with one of two NAMES there each."""
    other = {A: B, B: A}
    return tuple(sorted((("f", (), x, y), ("f", z, (), other[y]), ("f", other[z], other[x], ()))))


THREES = [turned(x, y, z) for x in (A, B) for y in (A, B) for z in (A, B)]
SORTED = [tuple(sorted(book)) for book in BOOKS]
ALWAYS, TIGHT = told_of(SORTED + [KEYS] + THREES
                        + random_books(2, 120, 3, 6))


class Ends(unittest.TestCase):

    def test_what_all_ends_have_in_common(self):
        """(a): the BLOT is what two ENDS have in common, and lies in all of them."""
        rnd = random.Random(3)
        for book in ALWAYS[:20] + TIGHT[:8]:
            signs = sorted(plain_signs(book) | {("k", 2)})
            for _ in range(15):
                form = random_form(rnd, signs, 2)
                whole = blot(book, form)
                self.assertEqual(whole, plain_blot(book, form))
                one, two = [led(book, form, made_end(book, form, name)) for name in ("end", "stop")]
                self.assertEqual(met_form(one, two), whole)
                self.assertIs(stands(("shown", book, form, whole)), True)
                for _ in range(4):
                    other = random_form(rnd, signs, 1)
                    self.assertEqual(is_end_of(book, form, other), is_ended(book, other) and plain_lies(whole, other))

    def test_lots(self):
        """(b): LOTS bar, or the others are enough, each with a paper."""
        rnd = random.Random(4)
        for book in ALWAYS[:16] + TIGHT[:8]:
            for _ in range(12):
                form = random_form(rnd, sorted(plain_signs(book) | {("k", 2)}), 2)
                places = tasks(book, form)
                if len(places) > 5:
                    continue
                for lot in least_barring(book, form):
                    claim = ("bars", book, form, lot)
                    self.assertIs(is_reason_for(claim, reason_for(claim)), True)
                    for place in lot:
                        less = ("bars", book, form, tuple(own for own in lot if own != place))
                        self.assertIs(is_paper_against(less, paper_against(less)), True)
                for lot in least_enough(book, form):
                    rest = ("bars", book, form, tuple(own for own in places if own not in lot))
                    self.assertIs(is_paper_against(rest, paper_against(rest)), True)
                self.assertEqual(needed_tasks(book, form), tuple(place for place in places if stands(("bars", book, form, (place,)))))


def worlds_for(books, seed, many):
    """BOOKS with HOUSES without CALLS, and WORLDS."""
    rnd, rows = random.Random(seed), []
    for book, house, _ in houses(seed, many, 5, 2, books):
        fresh = (house[0], ()) if rnd.random() < 0.5 else house
        try:
            rows.append((book, fresh, random_world(rnd, book, fresh, 5)))
        except NoHouse:
            continue
    return rows


class Worlds(unittest.TestCase):

    def test_one_least_lot(self):
        """(c): one least lot, lower sets of one order, and the longest chain is the fewest rounds."""
        many = 0
        for book, house, world in worlds_for(ALWAYS + TIGHT, 5, 500):
            try:
                least = least_lot(book, house, world)
                end = end_by(book, house, world, ALL)
            except TooMany:
                continue
            self.assertIs(lot_ends(book, house, world, least), True)
            self.assertEqual(least, tuple(cell for cell in wanted(book, end) if cell not in dict(house[1])))
            chain = longest_chain(book, end)
            self.assertEqual(len(by_hands(book, end, 60)), len(chain))
            self.assertIs(stands(("rounds", book, end, len(chain))), False)
            self.assertIs(stands(("rounds", book, end, len(chain) - 1)), True)
            if len(end[1]) <= 6:
                many += 1
                for lot in all_lots(book, end):
                    self.assertTrue(all(other in lot for cell in lot for other in causes(book, end, cell)))
        self.assertGreater(many, 100)

    def test_one(self):
        """(d): where the BOOK always needs, the engines by need call just the least lot."""
        many = 0
        for book, house, world in worlds_for(ALWAYS, 6, 900):
            try:
                told = race(book, house, world, (NEED, SURE, ALL))
            except TooMany:
                continue
            least = least_lot(book, house, world)
            many += len(least) > 2
            for engine in (NEED, SURE):
                self.assertEqual(tuple(sorted(log_by(book, house, world, engine))), least)
                self.assertEqual(spent_by(book, house, world, engine), ())
            self.assertEqual([told[0][0], told[1][0]], [len(least)] * 2)
            if not house[1]:
                self.assertEqual(told[2][1], len(longest_chain(book, end_by(book, house, world, ALL))))
                self.assertEqual(told[2][1], len(rounds_by(book, house, world, ALL)))
        self.assertGreater(many, 60)
        for book in ALWAYS:
            self.assertEqual(verdict(book)[0], "always")
            self.assertIs(is_verdict(book, verdict(book)), True)

    def settled(self, book, level, engine, many, rnd):
        """How many calls engine made at a Foe, and how many were enough."""
        foe = Foe(book, least_form(book), ONE, level)
        while len(foe) < many:
            rows = self.going(book, foe, engine, rnd)
            for cell in rows[:many - len(foe)]:
                foe.call(cell)
        top, bottom = foe.bound()
        foe.settle()
        world = foe.world()
        self.assertIs(is_done(book, house_led(book, ONE, world, foe.enough())), True)
        self.assertLessEqual(len(foe.enough()) * bottom, top)
        self.assertIs(lot_ends(book, ONE, world, tuple(sorted(foe.enough()))), True)
        self.assertEqual(read_world(world_text(world)), world)
        return len(foe), len(foe.enough())

    def going(self, book, foe, engine, rnd):
        if engine is None:
            plain = plain_of(book, foe.house())
            return [rnd.choice([cell for cell in sorted(plain.own) if plain.free(cell)])]
        try:
            return next_calls(book, foe.house(), engine)
        except TooMany:
            return foe.waiting()

    def test_beyond_every_factor(self):
        """(d): where it does not, the least form lacks, and a Foe makes whatever is called be for nothing."""
        rnd = random.Random(7)
        self.assertGreater(len(TIGHT), 5)
        for book in TIGHT:
            seed = least_form(book)
            self.assertIs(is_seed(book, seed), True)
            self.assertEqual((plain_blot(book, seed), plain_needed(book, seed)), ((), ()))
            self.assertEqual(verdict(book), ("lacks", seed))
            self.assertIs(is_paper_against(("always", book), seed), True)
            self.assertIs(stands(("always", book)), False)
            for engine in ENGINES + (None,):
                for level in (1, 2):
                    self.settled(book, level, engine, 14, rnd)
        best = [self.settled(TIGHT[0], level, engine, 60, rnd) for level in (1, 2, 3) for engine in (LEFT, ALL, None)]
        self.assertTrue(all(calls == 60 for calls, enough in best))
        self.assertGreater(max(calls / enough for calls, enough in best), 1.7)

    def test_quickfoes(self):
        for book in TIGHT[:6]:
            seed = least_form(book)
            for level in (0, 1, 2):
                costs, quick = quick_costs(book, seed, level), Quickfoe(book, seed, ONE, level)
                while not is_done(book, quick.house()) and len(quick) < 60:
                    quick.call(tasks_of(book, quick.house())[0])
                if costs and is_done(book, quick.house()):
                    self.assertGreaterEqual(len(quick), costs[0])
                    self.assertLessEqual(len(least_lot(book, ONE, quick.world())), costs[1])


class Machines(unittest.TestCase):

    def test_by_need(self):
        """(e): the machine makes just the calls of a least lot."""
        rnd, many = random.Random(8), 0
        for book in [own for own in ALWAYS if plain_lone(own)]:
            self.assertIs(has_trees(book), True)
            code, signs = book_code(book), sorted(plain_signs(book) | {("k", 2)})
            for _ in range(10):
                form = random_form(rnd, signs, 2)
                answers = tuple(rnd.choice((A, B, END, ("k", (), END))) for _ in range(25)) + (END,) * 40
                left, places, waits = run_code(code, form, answers)
                if waits is not None:
                    continue
                self.assertIs(is_ended(book, left), True)
                house, world = (plan_of(form), ()), ()
                self.assertEqual(cell_form(book, house, (0,)), form)
                # The same calls by CELLS: each PLACE called is met at just one CELL, as nothing is shared.
                log, told = [], {}
                for place, answer in zip(places, answers):
                    cell = dict(placed(book, house))[place]
                    told[cell] = answer
                    log.append(cell)
                    house = with_call(book, house, cell, answer)
                self.assertIs(is_done(book, house), True)
                world = tuple(sorted(told.items(), key=lambda pair: pair[0]))
                self.assertEqual(least_lot(book, (plan_of(form), ()), world), tuple(sorted(log)))
                many += len(log) > 2
        self.assertGreater(many, 40)

    def test_boards_and_desks(self):
        """(e): what comes back at a Board is told alike at a desk, and leaves the HOUSE that its text tells."""
        for book, house, world in worlds_for(ALWAYS + TIGHT, 9, 150):
            try:
                log = log_by(book, house, world, SURE)
            except TooMany:
                continue
            board, lines = Board(book, house), []
            for cell in log:
                reply = dict(world).get(cell, END)
                board.send(cell)
                board.come(cell, reply)
                lines += ["send " + cell_word(cell), "come " + cell_word(cell) + " " + reply_word(reply)]
            self.assertEqual(replies(book, house, "\n".join(lines + ["over"])), ["done"] * len(lines) + ["yes"])
            self.assertEqual(board.house(), house_led(book, house, world, log))
            self.assertEqual(read_house(house_text(board.house())), board.house())
            self.assertEqual((board.log(), board.is_over(), board.in_vain()), (log, True, board.for_nothing()))
            if book in ALWAYS:
                self.assertEqual([cell for cell in board.in_vain() if cell in log], [])


def plain_lone(book):
    """Whether no SIGN of a SIDE stands in one but at (): whether it is plain."""
    firsts = {(side[0], len(side) - 1) for side in book}
    parts = [part for side in book for place, part in plain_spots(side).items() if place and part]
    return not any((part[0], len(part) - 1) in firsts for part in parts)


if __name__ == "__main__":
    unittest.main()
