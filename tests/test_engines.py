"""[16]: ENGINES."""

import itertools
import random
import unittest

from notinvain.always import always_needs
from notinvain.cells import is_sure, ready, tasks_of, with_call
from notinvain.engines import end_by, is_block, is_engine, log_by, next_calls, race, rounds_by, spent_by, sure_cells
from notinvain.errors import NoCell, TooMany
from notinvain.worlds import house_led, least_lot, longest_chain, rounds, wanted
from tests.houses import BOOKS, RIGHT, THREE, houses, plain_bars, plain_of, random_world
from tests.small import A, B, END, as_lists, more_things, odd_things, plain_tasks, subsets

NEED, SURE, LEFT, ALL, LOTS = ("need",), ("sure",), ("left",), ("all",), ("lots",)
PICKS = (("picks", (0,)), ("picks", (3, 4)), ("picks", (1, 0, 7, 10 ** 6)))
ENGINES = (NEED, SURE, LEFT, ALL, LOTS) + PICKS
OUT_OF = random.Random(21)
WORLDS = [(book, house, plain, random_world(OUT_OF, book, house, 5)) for book, house, plain in houses(22, 500, 5, 2)]
FRESH = [(book, (house[0], ()), None, random_world(OUT_OF, book, (house[0], ()), 6)) for book, house, _ in houses(23, 300, 6, 0)]


def wide_worlds(seed, many):
    """HOUSES by THREE with FORMS that lack, and WORLDS for them."""
    rnd, rows = random.Random(seed), []
    for _ in range(many):
        count = rnd.choice((4, 7, 7))
        plan, free = [()] * count, 1
        for number in range(count):
            if free + 3 <= count and (number == 0 or rnd.random() < 0.6):
                plan[number] = ("f", free, free + 1, free + 2) if rnd.random() < 0.8 else ("f", free, free, free + 1)
                free += 3
            elif rnd.random() < 0.15:
                plan[number] = rnd.choice((A, B, END))
        house, world, cells = (tuple(plan), ()), {}, [(number,) for number in range(count)]
        for cell in cells + [(number, 0) for number in range(count)] + [(1, number) for number in range(4)]:
            own = rnd.choice((A, A, B, B, (), ("f", 0, A, ()), ("f", (), (), ()) if len(cell) == 1 else None, None))
            if own is not None:
                world[cell] = own
        rows.append((THREE, house, plain_of(THREE, house), tuple(sorted(world.items()))))
    return rows


WIDE = (THREE, ((("f", 1, 2, 3), (), (), ()), ()))


def told(world, cell):
    return dict(world).get(cell, END)


def plain_task_cells(book, plain):
    """The CELLS ready that are met at TASKS."""
    met = plain.placed()
    return sorted({met[place] for place in plain_tasks(book, plain.stands((0,)))})


def plain_next(book, plain, engine):
    """The CELLS for which engine goes."""
    free = plain.ready()
    if not free:
        return ()
    first = {}
    for place, cell in sorted(plain.placed().items(), reverse=True):
        first[cell] = place
    left = (min(free, key=lambda cell: first[cell]),)
    sure = [cell for cell in free if plain_bars(book, plain, (cell,))]
    if engine == ALL:
        return tuple(free)
    if engine == LEFT or engine in (NEED, SURE) and not sure:
        return left
    if engine == SURE:
        return tuple(sure)
    if engine == NEED:
        return (min(sure, key=lambda cell: first[cell]),)
    if engine == LOTS:
        rows = [row for row in subsets(plain_task_cells(book, plain)) if plain_bars(book, plain, row)]
        return min((len(row), row) for row in rows)[1]
    numbers = engine[1]
    return (free[numbers[len(plain.made) % len(numbers)] % len(free)],)


def plain_gone(book, house, world, engine):
    """The rounds of engine, and the CELLS behind them."""
    plain, rows = plain_of(book, house), []
    while True:
        row = plain_next(book, plain, engine)
        if not row:
            return rows, plain
        rows.append(row)
        for cell in row:
            plain.call(cell, told(world, cell))


def never_many(book, house, world):
    """Whether ("lots",) never meets more than seven CELLS at TASKS."""
    plain = plain_of(book, house)
    while len(plain_task_cells(book, plain)) < 8 and plain.ready():
        for cell in plain_next(book, plain, LOTS):
            plain.call(cell, told(world, cell))
    return not plain.ready()


WIDES = [row for row in wide_worlds(31, 160) if never_many(row[0], row[1], row[3])]


class Examples(unittest.TestCase):

    def test_right(self):
        house, world = ((("f", 1, 2), (), ()), ()), (((2,), ("b",)),)
        self.assertEqual((next_calls(RIGHT, house, ("need",)), next_calls(RIGHT, house, ("left",)),
                          next_calls(RIGHT, house, ("all",)), next_calls(RIGHT, house, ("picks", (3, 4)))),
                         (((2,),), ((1,),), ((1,), (2,)), ((2,),)))
        self.assertEqual((rounds_by(RIGHT, house, world, ("need",)), log_by(RIGHT, house, world, ("left",)),
                          spent_by(RIGHT, house, world, ("left",))), ([((2,),), ((0,),)], ((1,), (2,), (0,)), ((1,),)))
        self.assertEqual(race(RIGHT, house, world, (("need",), ("left",), ("all",), ("lots",))),
                         ((2, 2), (3, 3), (3, 2), (2, 2)))
        self.assertEqual(end_by(RIGHT, house, world, ("need",)),
                         ((("f", 1, 2), (), ()), (((0,), ("end",)), ((2,), ("b",)))))

    def test_three(self):
        self.assertEqual((sure_cells(*WIDE), next_calls(*WIDE, ("lots",)), next_calls(*WIDE, ("need",)),
                          is_block(*WIDE, ((1,), (3,)))), ((), ((1,), (2,)), ((1,),), True))


class Things(unittest.TestCase):

    def test_is_engine(self):
        for thing in ENGINES + (("picks", (10 ** 30,)), ("picks", (0,) * 1000)):
            self.assertIs(is_engine(thing), True, thing)
        for thing in (["need"], ("picks",), ("picks", ()), ("picks", [0]), ("picks", (-1,)), ("picks", (True,)), ("picks", 0),
                      ("picks", (0, None)), ("picks", (0,), ()), ("need", ()), ("need", (0,)), "need", (), ("Need",), None,
                      ("picks", (0, -1)), ["picks", (0,)], ("sure", "left"), (NEED,), ("picks", ("0",)), 0, ("pick", (0,))):
            self.assertIs(is_engine(thing), False, thing)
        for thing in odd_things() + more_things():
            self.assertIs(is_engine(thing), False, thing)
            self.assertIs(is_engine(("picks", thing)), thing in ((0,), (1, 2)) and type(thing[0]) is int, thing)
            self.assertIs(is_engine((thing, (0,))), False, thing)


class Going(unittest.TestCase):

    def test_next_calls(self):
        for book, house, plain, world in WORLDS + WIDES:
            for engine in ENGINES:
                self.assertEqual(next_calls(book, house, engine), plain_next(book, plain, engine), (book, house, engine))
            own = tuple(cell for cell in plain.ready() if is_sure(book, house, cell))
            self.assertEqual(sure_cells(book, house), own)

    def test_blocks(self):
        for book, house, plain, world in WORLDS[::2] + WIDES[::3]:
            cells = plain_task_cells(book, plain)
            self.assertEqual(tasks_of(book, house), tuple(cells))
            for row in subsets(sorted(plain.own)[:7]):
                own = all(cell in cells for cell in row) and bool(row) and plain_bars(book, plain, row)
                self.assertIs(is_block(book, house, row), own)

    def test_no_block(self):
        house = ((("f", 1, 2, 3), ("f", 4, 5, 6), (), (), A, B, ()), ())
        self.assertIs(is_block(THREE, house, ((1,), (2,))), True)
        self.assertIs(is_block(THREE, house, ((1,), (6,))), False)
        self.assertIs(is_block(THREE, house, ((1,), (2,), (6,))), False)
        self.assertIs(is_block(THREE, house, ()), False)
        self.assertIs(is_block(THREE, house, ((1,), (4,))), False)
        with self.assertRaises(NoCell) as caught:
            is_block(THREE, house, ((1,), (8,), (9,)))
        self.assertEqual(caught.exception.cell, (8,))
        self.assertIs(is_block(THREE, ((A,), ()), ()), False)
        self.assertIs(is_block(THREE, ((A,), ()), ((0,),)), False)

    def test_ended(self):
        for house in (((A,), ()), ((("f", 1, 1, 1), A), ()), (((),), (((0,), END),))):
            for engine in ENGINES:
                self.assertEqual(next_calls(THREE, house, engine), ())
                self.assertEqual((rounds_by(THREE, house, (), engine), log_by(THREE, house, (), engine),
                                  spent_by(THREE, house, (), engine), end_by(THREE, house, (), engine)), ([], (), (), house))
            self.assertEqual(race(THREE, house, (), ENGINES), ((0, 0),) * len(ENGINES))
        self.assertEqual(race(THREE, house, (), ()), ())

    def test_picks_count_the_calls_of_the_house(self):
        house = ((("k", 1, 2), (), ()), ())
        self.assertEqual(next_calls(RIGHT, house, ("picks", (0, 1))), ((1,),))
        self.assertEqual(next_calls(RIGHT, with_call(RIGHT, house, (1,), ("k", (), A)), ("picks", (0, 1))), ((2,),))
        self.assertEqual(next_calls(RIGHT, with_call(RIGHT, house, (1,), ("k", (), A)), ("picks", (1, 2))), ((1, 1),))


class Rounds(unittest.TestCase):

    def test_as_the_words_say(self):
        for book, house, _, world in WORLDS + FRESH + WIDES:
            for engine in ENGINES:
                rows, behind = plain_gone(book, house, world, engine)
                self.assertEqual(rounds_by(book, house, world, engine), rows)
                self.assertEqual(log_by(book, house, world, engine), tuple(cell for row in rows for cell in row))
                self.assertEqual(end_by(book, house, world, engine), behind.house())
                kept = wanted(book, behind.house())
                spent = sorted(cell for row in rows for cell in row if cell not in kept)
                self.assertEqual(spent_by(book, house, world, engine), tuple(spent))
                self.assertEqual(house_led(book, house, world, log_by(book, house, world, engine)), behind.house())

    def test_laws(self):
        needs = {book: always_needs(book) for book in BOOKS}
        self.assertEqual(sorted(needs.values()), [False] + [True] * (len(BOOKS) - 1))
        for book, house, plain, world in WORLDS + FRESH + WIDES:
            least = least_lot(book, house, world)
            told_of = race(book, house, world, ENGINES)
            forms = {plain_of(book, end_by(book, house, world, engine)).stands((0,)) for engine in ENGINES}
            self.assertEqual(len(forms), 1)
            fewest = told_of[ENGINES.index(ALL)][1]
            for engine, (calls, many) in zip(ENGINES, told_of):
                self.assertLessEqual(set(least), set(log_by(book, house, world, engine)))
                self.assertGreaterEqual(many, fewest)
                self.assertGreaterEqual(calls, len(least))
            if not house[1]:
                end = end_by(book, house, world, ALL)
                self.assertEqual(fewest, len(longest_chain(book, end)))
            self.assertEqual(rounds_by(book, house, world, ALL), rounds(book, house, world))
            self.assertLessEqual(told_of[ENGINES.index(LOTS)][1], len(least))
            if needs[book]:
                for engine in (NEED, SURE):
                    self.assertEqual(tuple(sorted(log_by(book, house, world, engine))), least)
                    self.assertEqual(spent_by(book, house, world, engine), ())

    def test_calls_for_nothing(self):
        world = (((1,), A), ((3,), B), ((2,), ("f", (), (), ())))
        self.assertEqual(spent_by(*WIDE, world, ("picks", (1,))), ())
        house = WIDE[1]
        world = (((1,), A), ((2,), B))
        self.assertEqual(log_by(THREE, house, world, LOTS), ((1,), (2,), (0,)))
        self.assertEqual(log_by(THREE, house, (((3,), B), ((2,), A)), LOTS), ((1,), (2,), (3,), (0,)))
        self.assertEqual(spent_by(THREE, house, (((3,), B), ((2,), A)), LOTS), ((1,),))

    def test_only_own_calls_are_spent(self):
        house = ((("f", 1, 2), (), ()), (((1,), A),))
        self.assertEqual(spent_by(RIGHT, house, (((2,), B),), ALL), ())


def deep_world(many):
    """A WORLD in which the CELL (0,) is OPEN again so often."""
    return tuple(((0,) * (number + 1), ()) for number in range(many))


class Bounds(unittest.TestCase):

    def test_sixty_calls(self):
        house, deeds = (((),), ()), (rounds_by, log_by, end_by, spent_by)
        for engine in ENGINES:
            self.assertEqual(len(log_by(RIGHT, house, deep_world(59), engine)), 60)
            for deed in deeds:
                deed(RIGHT, house, deep_world(59), engine)
                self.assertRaises(TooMany, deed, RIGHT, house, deep_world(60), engine)
            own = house_led(RIGHT, house, deep_world(60), ((0,),))
            self.assertEqual(len(rounds_by(RIGHT, own, deep_world(60), engine)), 60)
            self.assertEqual(next_calls(RIGHT, own, engine), ((0, 0),))
        self.assertEqual(race(RIGHT, house, deep_world(59), (ALL, LEFT)), ((60, 60), (60, 60)))
        self.assertRaises(TooMany, race, RIGHT, house, deep_world(60), (ALL,))

    def test_more_than_ten_at_tasks(self):
        ten = (("k", 1, 2, 3), ("k", 4, 5, 6), ("k", 7, 8, 9), ("k", 10, 11, 12), ("k", 13, 14)) + ((),) * 10
        eleven = ten[:3] + (("k", 10, 11, 12), ("k", 13, 14, 15)) + ((),) * 11
        self.assertEqual((len(tasks_of(RIGHT, (ten, ()))), len(tasks_of(RIGHT, (eleven, ())))), (10, 11))
        self.assertEqual(next_calls(RIGHT, (ten, ()), LOTS), ((5,),))
        for deed in (lambda engine: next_calls(RIGHT, (eleven, ()), engine),
                     lambda engine: log_by(RIGHT, (eleven, ()), (), engine),
                     lambda engine: race(RIGHT, (eleven, ()), (), (ALL, engine))):
            self.assertRaises(TooMany, deed, LOTS)
            for engine in (NEED, SURE, LEFT, ALL) + PICKS:
                deed(engine)
        self.assertIs(is_block(RIGHT, (eleven, ()), ((5,), (15,))), True)
        # Ten at first, eleven behind the first call.
        self.assertRaises(TooMany, log_by, RIGHT, (ten, ()), (((5,), ("k", (), ())),), LOTS)

    def test_ten_in_nested_blocks(self):
        plan = (("f", 1, 2, 3), ("f", 4, 5, 6), ("f", 7, 8, 9), ("f", 10, 11, 12)) + ((),) * 9
        self.assertEqual(next_calls(THREE, (plan, ()), LOTS), ((4,), (5,), (7,), (8,)))
        plan = plan[:12] + (("f", 13, 13, 13), ())
        self.assertEqual(next_calls(THREE, (plan, ()), LOTS), ((4,), (5,), (7,), (8,)))
        self.assertEqual(next_calls(THREE, (plan[:3] + (("f", 12, 12, 13), (), (), (), (), (), (), (), ()) + plan[12:], ()), LOTS),
                         ((4,), (5,), (13,)))

    def test_three_hundred_places(self):
        plan = (("k", 1, 9), ("k", 2, 2)) + tuple(("k", number + 1, number + 1) for number in range(2, 8)) + ((), ())
        house, at = (plan, ()), (9,)
        for _ in range(43):
            house = with_call(RIGHT, house, at, ("g", ()))
            at = at + (1,)
        self.assertEqual(ready(RIGHT, house), ((8,), at))
        for engine in ENGINES:
            self.assertIn(next_calls(RIGHT, house, engine), (((8,),), (at,), ((8,), at)))
            self.assertEqual(len(log_by(RIGHT, house, (), engine)), 2)
        self.assertEqual(sure_cells(RIGHT, house), ((8,), at))
        self.assertIs(is_block(RIGHT, house, (at,)), True)
        # Behind the last round there is one PLACE too many.
        for engine in ENGINES:
            self.assertRaises(TooMany, log_by, RIGHT, house, ((at, ("g", END)),), engine)
            self.assertRaises(TooMany, race, RIGHT, house, ((at, ("g", END)),), (engine,))
        house = with_call(RIGHT, house, at, ("g", ("g", ())))
        for engine in ENGINES:
            for deed in (rounds_by, log_by, end_by, spent_by):
                self.assertRaises(TooMany, deed, RIGHT, house, (), engine)
            self.assertRaises(TooMany, next_calls, RIGHT, house, engine)
            self.assertRaises(TooMany, race, RIGHT, house, (), (engine,))
        self.assertEqual(race(RIGHT, house, (), ()), ())
        self.assertRaises(TooMany, sure_cells, RIGHT, house)
        self.assertRaises(TooMany, is_block, RIGHT, house, (at,))
        self.assertRaises(NoCell, is_block, RIGHT, house, (at, (77,)))
        ended = with_call(RIGHT, with_call(RIGHT, house, (8,), A), at + (2,), A)
        self.assertRaises(TooMany, next_calls, RIGHT, ended, ALL)

    def test_lists(self):
        for book, house, plain, world in WORLDS[:40]:
            for engine in ENGINES:
                own = [as_lists(part) for part in (book, house, world, engine)]
                self.assertEqual(rounds_by(*own), rounds_by(book, house, world, engine))


class Books(unittest.TestCase):

    def test_all_are_used(self):
        self.assertEqual({row[0] for row in WORLDS}, set(BOOKS))
        self.assertGreater(len(WIDES), 60)
        self.assertTrue(any(len(next_calls(book, house, LOTS)) > 1 for book, house, _, _ in WIDES))
        self.assertTrue(any(spent_by(*row[:2], row[3], engine) for row, engine in itertools.product(FRESH, ENGINES)))


if __name__ == "__main__":
    unittest.main()
