"""[17]: SEEDS, ways, Foes, Quickfoes, coin worlds."""

import itertools
import random
import unittest

from notinvain.cells import is_done, is_house, tasks_of, with_call
from notinvain.engines import next_calls
from notinvain.errors import CanNot, NoCell, TooMany, Unfit
from notinvain.foes import Foe, Quickfoe, coin_worlds, is_seed, quick_costs, slack, ways
from notinvain.lots import least_enough, share
from notinvain.runs import is_ended, is_run, led
from notinvain.worlds import house_led, is_world, least_lot, lot_ends, rounds, wanted
from tests.houses import BOTH, RIGHT, THREE, plain_of
from tests.seeds import KEYS, LONG, PAIRED, TIGHT, UNEVEN, WIDE, nested_seed, plain_seed, seeds_of
from tests.small import A, B, END, MARK, as_lists, forms_of, mixed, more_things, odd_things, plain_spots

ONE = (((),), ())
ENDED = ((A,), ())
NEED, SURE, LEFT, ALL, LOTS = ("need",), ("sure",), ("left",), ("all",), ("lots",)
ENGINES = (NEED, SURE, LEFT, ALL, LOTS, ("picks", (0,)), ("picks", (3, 1, 2)))
SEEDS = [(book, seed) for book in TIGHT for seed in seeds_of(book, 3, 2500)[:12]]
# Ten OPEN PLACES, and one more.
TEN = ("f", WIDE, WIDE, ("f", ("f", A, (), ()), (), ("a",)))
ELEVEN = ("f", WIDE, WIDE, ("f", (), (), WIDE))
# Several tasks; some due, some met twice, some below others.
HOUSES = (ONE, ((("k", 1, 2, 1), (), ()), ()), ((("f", 1, 2, 3), ("f", 2, 3, 4), A, B, (), ()), ()),
          ((("k", 1, 2), ("f", 2, 3, 4), (), A, B), ()), ((("f", 1, 2, 3), (), (), ()), (((1,), ("k", (), A)), ((3,), WIDE))),
          ((("k", 1), ()), (((1,), ("k", (), ())), ((1, 2), END))))
FOR_HOUSES = [(book, house) for book in (THREE, KEYS, LONG) for house in HOUSES]


def plain_cells(seed):
    """The node at each PLACE of seed."""
    return {place: number for number, place in enumerate(sorted(plain_spots(seed)))}


def is_open(seed, place):
    return plain_spots(seed)[place] == ()


class PlainFoe:
    """What a Foe or a Quickfoe tells, straight from the words; a play is told by its CELL."""

    def __init__(self, seed, rows, tasks, level):
        self.seed, self.rows, self.tasks, self.nodes = seed, rows, tasks, plain_cells(seed)
        # Of each CELL where a play waits: its level, and the CELL where this play began.
        self.waits = {cell: (level, cell) for cell in tasks}
        self.level_of, self.calls_of = {cell: level for cell in tasks}, {cell: [] for cell in tasks}
        self.over, self.chosen = {}, {}

    def grow(self, cell, level):
        for place, node in self.nodes.items():
            if is_open(self.seed, place):
                own = cell + (node,)
                self.waits[own], self.level_of[own], self.over[own] = (level - 1, own), level - 1, (cell, place)
                self.calls_of[own] = []
        return self.seed

    def foe_call(self, cell):
        if cell not in self.waits:
            return END
        level, play = self.waits.pop(cell)
        self.calls_of[play].append(cell)
        if level:
            return self.grow(cell, level)
        self.waits[cell + (0,)] = (0, play)
        return ()

    def last(self, play):
        if play not in self.over:
            return END
        whole, place = self.over[play]
        if whole not in self.chosen:
            self.chosen[whole] = dict([run for lot, run in self.rows if place not in lot][0])
            return END
        return self.chosen[whole].get(place, END)

    def quick_call(self, cell):
        if cell in self.waits:
            level, play = self.waits.pop(cell)
            self.calls_of[play].append(cell)
            return self.grow(cell, level) if level else self.last(cell)
        play = cell[:-1]
        inner = [place for place, node in self.nodes.items() if cell[-1:] == (node,)]
        if not self.calls_of.get(play) or self.level_of[play] == 0 or not inner:
            return END
        return self.last(play) if inner == [()] else self.chosen.get(play, {}).get(inner[0], END)

    def parts(self, play):
        return {place: play + (self.nodes[place],) for place in self.nodes if is_open(self.seed, place)}

    def weight(self, play):
        more = self.parts(play).values() if self.level_of[play] and self.calls_of[play] else ()
        return len(self.calls_of[play]) + sum(self.weight(part) for part in more)

    def settle(self, play, form, told):
        """The calls that take part."""
        if not self.calls_of[play] or self.level_of[play] == 0:
            last = self.calls_of[play][-1] + (0,) if self.calls_of[play] else play
            told[last] = form
            return self.calls_of[play] + [last]
        parts = self.parts(play)
        _, _, run = min((sum(self.weight(parts[place]) for place in lot), number, run)
                        for number, (lot, run) in enumerate(self.rows))
        out = [play]
        for place, answer in run:
            if place in parts:
                out += self.settle(parts[place], answer, told)
            else:
                out.append(play + (self.nodes[place],))
                told[out[-1]] = answer if place else form
        return out


def as_world(replies):
    return tuple(sorted((pair for pair in replies.items() if pair[1] != END), key=lambda pair: pair[0]))


def going(book, foe, engine, rnd):
    """The CELLS to be called next: by an ENGINE, or, for None, any CELL at which a call can be made."""
    if engine is None:
        plain = plain_of(book, foe.house())
        return (rnd.choice([cell for cell in sorted(plain.own) if plain.free(cell)]),)
    try:
        return next_calls(book, foe.house(), engine)
    except TooMany:
        return foe.waiting()[:1]


class Examples(unittest.TestCase):

    def test_seeds_and_ways(self):
        self.assertEqual((is_seed(THREE, ("f", ("a",), (), ())), [slack(THREE, WIDE, level) for level in (0, 1, 2)],
                          quick_costs(THREE, WIDE, 2)), (False, [1, 4, 10], (17, 10)))
        self.assertEqual(ways(THREE, WIDE)[2], (((1,), (2,)), (((1,), ('a',)), ((2,), ('b',)), ((), ('end',)))))

    def test_foe(self):
        foe = Foe(THREE, WIDE, ONE, 1)
        self.assertEqual((foe.call((0,)), foe.call((0, 1)), foe.call((0, 1, 0)), foe.waiting(), foe.bound(), foe.settle()),
                         (('f', (), (), ()), (), (), ((0, 1, 0, 0), (0, 2), (0, 3)), (18, 3), None))
        self.assertEqual(foe.world(), (((0,), ('f', (), (), ())), ((0, 1), ()), ((0, 1, 0), ()), ((0, 2), ('a',)), ((0, 3), ('b',))))
        self.assertEqual((foe.enough(), [foe.call(cell) for cell in ((0, 2), (0, 3), (0, 0))], len(foe)),
                         (((0,), (0, 2), (0, 3), (0, 0)), [('a',), ('b',), ('end',)], 6))

    def test_quickfoe(self):
        quick = Quickfoe(THREE, WIDE, ONE, 1)
        self.assertEqual([quick.call(cell) for cell in ((0,), (0, 1), (0, 2), (0, 3), (0, 0))],
                         [('f', (), (), ()), ('end',), ('a',), ('b',), ('end',)])

    def test_coins(self):
        self.assertEqual(coin_worlds(THREE, WIDE, 1)[0], (((0,), ('f', (), (), ())), ((0, 2), ('a',)), ((0, 3), ('b',))))


class Seeds(unittest.TestCase):

    def test_all_small(self):
        for book in TIGHT + (RIGHT, BOTH, ()):
            for form in forms_of((("a", 0), ("f", 3), ("p", 2)), 5):
                self.assertIs(is_seed(book, form), plain_seed(book, form), (book, form))
                self.assertIs(is_seed(as_lists(book), form), plain_seed(book, form))
                self.assertIs(is_seed(book, as_lists(form)), False)
        self.assertGreater(len(SEEDS), 40)

    def test_spoiled(self):
        for book, seed in SEEDS:
            self.assertIs(is_seed(book, seed), True)
            for form in (seed + ((),), seed[:-1], seed[::-1], list(seed), (seed,), ("g",) + seed[1:], seed[:1] + (seed[1:],)):
                self.assertIs(is_seed(book, form), isinstance(form, tuple) and form[0] == "f" and plain_seed(book, form))
            for place, part in plain_spots(seed).items():
                if part == ():
                    own = nested(seed, place, MARK)
                    self.assertIs(is_seed(book, own), False)
                    for other in (A, B, END, ("f", A, A), ("c",)):
                        own = nested(seed, place, other)
                        self.assertIs(is_seed(book, own), plain_seed(book, own))
                    for other in (True, 0, None, [], "a", ("",), ((),)):
                        self.assertIs(is_seed(book, nested(seed, place, other)), False)

    def test_things(self):
        for book in TIGHT + (RIGHT,):
            for thing in odd_things() + more_things():
                self.assertIs(is_seed(book, thing), False)
        self.assertIs(is_seed(THREE, ("f", (), (), MARK)), False)
        many = WIDE
        for _ in range(6):
            many = ("f", many, many, many)
        self.assertIs(is_seed(THREE, many), True)
        self.assertIs(is_seed(THREE, ("f", many, many, ("end",))), True)
        self.assertIs(is_seed(THREE, ("k", many, many, many)), False)


def nested(form, place, other):
    """form with other, of whatever kind, put at place."""
    if not place:
        return other
    return form[:place[0] + 1] + (nested(form[place[0] + 1], place[1:], other),) + form[place[0] + 2:]


class Ways(unittest.TestCase):

    def test_properties(self):
        for book, seed in SEEDS + [(THREE, TEN), (THREE, nested_seed(WIDE, 1))]:
            rows = ways(book, seed)
            self.assertEqual(tuple(lot for lot, run in rows), least_enough(book, seed))
            spots = plain_spots(seed)
            for lot, run in rows:
                places = [place for place, answer in run]
                self.assertIs(is_run(book, seed, run), True)
                self.assertEqual(led(book, seed, run), END)
                self.assertEqual(run[-1], ((), END))
                self.assertTrue(all(is_ended(book, answer) for place, answer in run))
                self.assertEqual(len(places), len(set(places)))
                self.assertEqual(tuple(sorted(place for place in places if spots[place] == ())), lot)
                self.assertTrue(set(places) <= set(spots))
            self.assertEqual(ways(as_lists(book), as_lists(seed)), rows)
            self.assertEqual(ways(book=book, seed=seed), rows)

    def test_slack(self):
        for book, seed in SEEDS:
            q = list(plain_spots(seed).values()).count(())
            s, own = len(plain_spots(seed)) - q, 1
            for level in range(4):
                self.assertEqual(slack(book, seed, level), own)
                own = 1 + s + (q - 1) * own

    def test_quick_costs(self):
        kinds = set()
        for book, seed in SEEDS:
            costs = {(len(lot), len(run) - len(lot)) for lot, run in ways(book, seed)}
            kinds.add(len(costs) > 1)
            for level in range(4):
                if len(costs) > 1:
                    self.assertIsNone(quick_costs(book, seed, level))
                    continue
                (e, d), c, m = list(costs)[0], 1, 1
                for _ in range(level):
                    c, m = 1 + (e + 1) * c + d, 1 + e * m + d
                self.assertEqual(quick_costs(book, seed, level), (c, m))
        self.assertEqual(kinds, {True, False})


def deeds_with(seed):
    """All that takes a seed, for THREE."""
    return [lambda: ways(THREE, seed), lambda: slack(THREE, seed, 0), lambda: slack(THREE, seed, 2),
            lambda: quick_costs(THREE, seed, 0), lambda: quick_costs(THREE, seed, 2), lambda: coin_worlds(THREE, seed, 1),
            lambda: Foe(THREE, seed, ONE, 0), lambda: Foe(THREE, seed, ONE, 2), lambda: Quickfoe(THREE, seed, ONE, 0)]


class Errors(unittest.TestCase):

    def test_unfit_and_too_many(self):
        self.assertEqual([list(plain_spots(form).values()).count(()) for form in (TEN, ELEVEN)], [9, 11])
        ten = ("f", WIDE, WIDE, ("f", (), (), ("f", A, (), ())))
        self.assertEqual((list(plain_spots(ten).values()).count(()), plain_seed(THREE, ten)), (10, True))
        for deed in deeds_with(ten) + deeds_with(TEN):
            deed()
        self.assertIs(is_seed(THREE, ELEVEN), True)
        for deed in deeds_with(ELEVEN):
            self.assertRaises(TooMany, deed)
        wrong = ("k", WIDE, WIDE, ("f", (), (), WIDE))
        for seed in ((), A, ("f", (), (), B), ("f", (), A, B), wrong):
            for deed in deeds_with(seed):
                self.assertRaises(Unfit, deed)
        self.assertRaises(Unfit, ways, RIGHT, ("f", (), ()))

    def test_ended_first(self):
        for kind in (Foe, Quickfoe):
            for house in (ENDED, ((("f", 1, 1, 1), A), ()), (((),), (((0,), END),))):
                for seed in (WIDE, ELEVEN, (), A):
                    self.assertRaises(CanNot, kind, THREE, seed, house, 1)

    def test_calls(self):
        for kind in (Foe, Quickfoe):
            foe = kind(THREE, WIDE, HOUSES[3], 1)
            for _ in range(2):
                with self.assertRaises(NoCell) as caught:
                    foe.call([7, 1])
                self.assertEqual(caught.exception.cell, (7, 1))
                self.assertRaises(CanNot, foe.call, (3,))
                self.assertRaises(CanNot, foe.call, (0,))
                self.assertEqual((foe.log(), len(foe), foe.house(), foe.waiting()), ((), 0, HOUSES[3], ((1,), (2,))))
            self.assertEqual(foe.call((2,)), WIDE)
            self.assertRaises(CanNot, foe.call, (2,))
            self.assertRaises(CanNot, foe.call, (2, 0))
            self.assertEqual((foe.log(), len(foe)), (((2,),), 1))

    def test_settled_once(self):
        foe = Foe(THREE, WIDE, ONE, 1)
        foe.call((0,))
        for _ in range(2):
            self.assertRaises(CanNot, foe.world)
            self.assertRaises(CanNot, foe.enough)
        self.assertEqual(foe.waiting(), ((0, 1), (0, 2), (0, 3)))
        foe.settle()
        before = (foe.world(), foe.enough(), foe.house(), foe.log(), foe.bound(), foe.waiting())
        self.assertRaises(CanNot, foe.settle)
        self.assertEqual((foe.world(), foe.enough(), foe.house(), foe.log(), foe.bound(), foe.waiting()), before)
        self.assertRaises(CanNot, foe.call, (0,))
        self.assertRaises(NoCell, foe.call, (1,))
        self.assertEqual(foe.waiting(), ())


class Foes(unittest.TestCase):

    def check_told(self, foe, plain, book, house, level):
        """What foe tells when it is settled."""
        calls, bound = len(foe), foe.bound()
        seed, tasks = plain.seed, plain.tasks
        q = list(plain_spots(seed).values()).count(())
        self.assertEqual(bound, (calls * (q - 1) ** level + len(tasks) * slack(book, seed, level) * q ** level, q ** level))
        self.assertIsNone(foe.settle())
        told, taking = {}, []
        for task in tasks:
            taking += plain.settle(task, END, told)
        made = dict(foe.house()[1])
        world = as_world({**made, **told})
        self.assertEqual((foe.world(), foe.enough(), foe.waiting()), (world, tuple(taking), ()))
        self.assertIs(is_world(world), True)
        for cell, reply in made.items():
            self.assertEqual(dict(world).get(cell, END), reply)
        self.assertEqual(house_led(book, house, world, foe.log()), foe.house())
        self.assertIs(is_done(book, house_led(book, house, world, foe.enough())), True)
        self.assertIs(lot_ends(book, house, world, tuple(sorted(foe.enough()))), True)
        least = least_lot(book, house, world)
        self.assertLessEqual(set(least), set(taking))
        self.assertLessEqual(len(least) * bound[1], bound[0])
        top, bottom = share(book, seed)
        self.assertLessEqual(len(least) * bottom ** level,
                             calls * top ** level + len(tasks) * slack(book, seed, level) * bottom ** level)
        return world

    def play(self, book, seed, house, level, engine, many, rnd):
        foe = Foe(book, seed, house, level)
        tasks = tasks_of(book, house)
        plain, log, calls = PlainFoe(seed, ways(book, seed), tasks, level), [], dict(house[1])
        while len(foe) < many:
            self.assertEqual(foe.waiting(), tasks_of(book, foe.house()))
            self.assertNotEqual(foe.waiting(), ())
            self.assertEqual(foe.waiting(), tuple(sorted(plain.waits)))
            for cell in going(book, foe, engine, rnd)[:many - len(foe)]:
                calls[cell] = foe.call(cell)
                self.assertEqual(calls[cell], plain.foe_call(cell))
                log.append(cell)
            self.assertEqual((foe.log(), len(foe)), (tuple(log), len(log)))
            self.assertEqual(foe.house(), (house[0], tuple(sorted(calls.items(), key=lambda pair: pair[0]))))
        self.assertIs(is_house(book, foe.house()), True)
        world = self.check_told(foe, plain, book, house, level)
        for _ in range(8):
            rest = [cell for cell in foe.enough() if cell not in dict(foe.house()[1])]
            if not rest:
                break
            self.assertEqual(foe.call(rest[0]), dict(world).get(rest[0], END))
            self.assertEqual((foe.world(), foe.log()[-1]), (world, rest[0]))
        return foe

    def test_engines(self):
        rnd = random.Random(1)
        for number, (book, seed) in enumerate(SEEDS):
            for engine in ENGINES + (None, None):
                self.play(book, seed, rnd.choice(HOUSES[:2]), rnd.choice((0, 1, 1, 2)), engine, rnd.randint(0, 9), rnd)

    def test_houses(self):
        rnd = random.Random(2)
        for book, house in FOR_HOUSES:
            for engine in ENGINES + (None,) * 6:
                self.play(book, WIDE, house, rnd.randint(0, 2), engine, rnd.randint(0, 12), rnd)

    def test_lots_of_unlike_sizes(self):
        """Which way is taken hangs on all calls of the parts, those of the parts themselves among them."""
        rnd = random.Random(9)
        seeds = [(book, seed) for book, seed in SEEDS if len({len(lot) for lot, run in ways(book, seed)}) > 1]
        self.assertGreater(len(seeds), 10)
        for _ in range(400):
            book, seed = rnd.choice(seeds)
            foe = Foe(book, seed, ONE, 2)
            plain = PlainFoe(seed, ways(book, seed), ((0,),), 2)
            for _ in range(rnd.randint(4, 12)):
                cell = rnd.choice(foe.waiting()[:rnd.randint(1, 12)])
                self.assertEqual(foe.call(cell), plain.foe_call(cell))
            foe.settle()
            told = {}
            self.assertEqual(foe.enough(), tuple(plain.settle((0,), END, told)))
            self.assertEqual(foe.world(), as_world({**dict(foe.house()[1]), **told}))

    def test_levels(self):
        rnd = random.Random(3)
        for level in (0, 1, 2, 3):
            for engine in (LEFT, ("picks", (3, 1, 2)), None, None):
                foe = self.play(THREE, WIDE, ONE, level, engine, 25, rnd)
                self.assertLessEqual(len(foe.enough()), {0: 26, 1: 24, 2: 20, 3: 22}[level])

    def test_beyond_every_factor(self):
        """With ever more calls the least lot is an ever smaller part of them."""
        for level, factor in ((1, 1.3), (2, 1.7), (3, 1.8)):
            foe = Foe(THREE, WIDE, ONE, level)
            while len(foe) < 60:
                foe.call(foe.waiting()[len(foe) * 7 % len(foe.waiting())])
            foe.settle()
            self.assertGreater(len(foe), factor * len(foe.enough()))
            self.assertLessEqual(len(foe.enough()) * foe.bound()[1], foe.bound()[0])

    def test_no_call(self):
        for level in range(4):
            foe = Foe(THREE, WIDE, HOUSES[2], level)
            tasks = tasks_of(THREE, HOUSES[2])
            self.assertEqual((foe.house(), foe.log(), len(foe), foe.waiting()), (HOUSES[2], (), 0, tasks))
            foe.settle()
            self.assertEqual((foe.world(), foe.enough()), ((), tasks))
            self.assertEqual([foe.call(cell) for cell in tasks], [END] * len(tasks))
            self.assertIs(is_done(THREE, foe.house()), True)

    def test_elsewhere(self):
        house = ((("k", 1, 4), ("f", 2, 3, 3), (), A, ("f", 3, 5, 3), B), ())
        book = tuple(sorted(THREE + (("h", ("a",)),)))
        foe = Foe(book, WIDE, ((("k", 1), ("h", 2), A), ()), 1)
        self.assertEqual(foe.waiting(), ((1,),))
        foe = Foe(THREE, WIDE, ((("f", 1, 2, 3), (), A, B), ()), 2)
        self.assertEqual((foe.waiting(), foe.call((1,))), (((0,),), END))
        self.assertEqual((foe.waiting(), foe.call((0,)), foe.waiting()), (((0,),), WIDE, ((0, 1), (0, 2), (0, 3))))
        self.assertEqual(is_done(THREE, house), False)

    def test_due_task_at_level_0(self):
        house = ((("f", 1, 2, 3), (), A, B), ())
        foe = Foe(THREE, WIDE, house, 0)
        self.assertEqual([foe.call(cell) for cell in ((0,), (0, 0), (0, 0, 0))], [(), (), ()])
        foe.settle()
        self.assertEqual((foe.world(), foe.enough()), ((((0,), ()), ((0, 0), ()), ((0, 0, 0), ())),
                                                       ((0,), (0, 0), (0, 0, 0), (0, 0, 0, 0))))
        self.assertEqual(foe.call((0, 0, 0, 0)), END)
        self.assertEqual(foe.bound(), (4 + 1, 1))


class Quickfoes(unittest.TestCase):

    def play(self, book, seed, house, level, engine, rnd, most=60):
        foe, tasks = Quickfoe(book, seed, house, level), tasks_of(book, house)
        plain, log, calls = PlainFoe(seed, ways(book, seed), tasks, level), [], dict(house[1])
        self.assertEqual(foe.waiting(), tasks)
        while len(foe) < most and not is_done(book, foe.house()):
            rows = going(book, foe, engine, rnd)
            for cell in rows[:most - len(foe)]:
                calls[cell] = foe.call(cell)
                self.assertEqual(calls[cell], plain.quick_call(cell))
                log.append(cell)
            self.assertEqual((foe.log(), len(foe), foe.waiting()), (tuple(log), len(log), tuple(sorted(plain.waits))))
            self.assertEqual(foe.house(), (house[0], tuple(sorted(calls.items(), key=lambda pair: pair[0]))))
            self.assertEqual(foe.world(), as_world(calls))
        self.assertEqual(house_led(book, house, foe.world(), foe.log()), foe.house())
        costs = quick_costs(book, seed, level)
        if is_done(book, foe.house()) and costs is not None:
            self.assertGreaterEqual(len(foe), len(tasks) * costs[0])
            least = least_lot(book, house, foe.world())
            self.assertLessEqual(len(least), len(tasks) * costs[1])
            self.assertEqual(least, tuple(cell for cell in wanted(book, foe.house()) if cell not in dict(house[1])))
            return True
        return False

    def test_engines(self):
        rnd, ended = random.Random(4), 0
        for book, seed in SEEDS:
            for engine in ENGINES + (None, None):
                ended += self.play(book, seed, rnd.choice(HOUSES[:2]), rnd.choice((0, 1, 1, 2)), engine, rnd, 24)
        self.assertGreater(ended, 50)

    def test_houses(self):
        rnd, ended = random.Random(5), 0
        for book, house in FOR_HOUSES:
            for engine in ENGINES + (None, None, None):
                for level in (0, 1, 2):
                    ended += self.play(book, WIDE, house, level, engine, rnd, 40)
        self.assertGreater(ended, 150)

    def test_just_so_many(self):
        """Who goes from the left makes just as many calls as the point tells, from the first to the last level."""
        for level, many in ((0, 1), (1, 5), (2, 17), (3, 53)):
            self.assertEqual(quick_costs(THREE, WIDE, level)[0], many)
            foe = Quickfoe(THREE, WIDE, ONE, level)
            while not is_done(THREE, foe.house()):
                foe.call(next_calls(THREE, foe.house(), LEFT)[0])
            self.assertEqual(len(foe), many)
            self.assertEqual(len(least_lot(THREE, ONE, foe.world())), quick_costs(THREE, WIDE, level)[1])

    def test_parts_that_wait_yet(self):
        seed = [own for book, own in SEEDS if book == UNEVEN][0]
        foe, nodes = Quickfoe(UNEVEN, seed, ONE, 1), plain_cells(seed)
        places = [place for place in nodes if is_open(seed, place)]
        foe.call((0,))
        lots = [lot for lot, run in ways(UNEVEN, seed)]
        first = [place for place in places if any(place not in lot and len(lot) < len(places) - 1 for lot in lots)][0]
        lot = [own for own in lots if first not in own][0]
        self.assertEqual(foe.call((0, nodes[first])), END)
        for place, answer in dict(ways(UNEVEN, seed))[lot]:
            self.assertEqual(foe.call((0, nodes[place])), answer)
        self.assertIs(is_done(UNEVEN, foe.house()), True)
        left = [place for place in places if place != first and place not in lot]
        self.assertEqual(foe.waiting(), tuple(sorted((0, nodes[place]) for place in left)))
        self.assertGreater(len(left), 0)
        self.assertEqual(foe.call((0, nodes[left[0]])), END)
        self.assertEqual(foe.waiting(), tuple(sorted((0, nodes[place]) for place in left[1:])))

    def test_behind_its_play(self):
        """Parts of a part that is done go on waiting, and are told what their play's way says."""
        seed = ("f", (), WIDE, ())
        foe, rnd = Quickfoe(THREE, seed, ONE, 2), random.Random(8)
        plain = PlainFoe(seed, ways(THREE, seed), ((0,),), 2)
        while not is_done(THREE, foe.house()):
            cell = next_calls(THREE, foe.house(), ("picks", (rnd.randint(0, 9),)))[0]
            self.assertEqual(foe.call(cell), plain.quick_call(cell))
        while foe.waiting():
            cell = rnd.choice(foe.waiting())
            self.assertEqual(foe.call(cell), plain.quick_call(cell))


class Coins(unittest.TestCase):

    def test_as_the_words_say(self):
        for book, seed in SEEDS:
            nodes, rows = plain_cells(seed), ways(book, seed)
            for number in (1, 2, 5, 20):
                told = coin_worlds(book, seed, number)
                places = [place for place in nodes if is_open(seed, place)]
                self.assertEqual(len(told), len(places))
                for place, world in zip(places, told):
                    answers = dict([run for lot, run in rows if place not in lot][0])
                    own = {(0,): seed}
                    for other, node in nodes.items():
                        many = number - 1 if other in places else 0
                        own.update({(0, node) + (0,) * many: () for many in range(many)})
                        own[(0, node) + (0,) * many] = END if other == place else answers.get(other, END)
                    self.assertEqual(world, as_world(own))
                    self.assertIs(is_world(world), True)
                self.assertEqual(coin_worlds(as_lists(book), as_lists(seed), number), told)
                self.assertEqual(coin_worlds(number=number, seed=seed, book=book), told)

    def test_guarantee(self):
        for book, seed in [(THREE, WIDE), (LONG, WIDE)] + SEEDS[::6]:
            q = list(plain_spots(seed).values()).count(())
            for number in (1, 2, 3, 7, 11):
                if q * number > 45:
                    continue
                for engine in ENGINES:
                    spent = 0
                    for world in coin_worlds(book, seed, number):
                        house, many = ONE, 0
                        while not is_done(book, house):
                            for cell in next_calls(book, house, engine):
                                house, many = with_call(book, house, cell, dict(world).get(cell, END)), many + 1
                        spent += many - len(least_lot(book, ONE, world))
                    self.assertGreaterEqual(spent, number, (seed, engine))

    def test_ends(self):
        for book, seed in SEEDS[::3]:
            for world in coin_worlds(book, seed, 3):
                self.assertGreater(len(rounds(book, ONE, world)), 3)


class Passing(unittest.TestCase):

    def test_lists_and_names(self):
        for book, seed in SEEDS[::5]:
            for house, change in itertools.product(HOUSES[:3], (as_lists, mixed)):
                foes = [Foe(book, seed, house, 1), Foe(change(book), change(seed), change(house), 1),
                        Foe(level=1, house=house, seed=seed, book=book)]
                quick = [Quickfoe(book, seed, house, 1), Quickfoe(change(book), change(seed), change(house), 1),
                         Quickfoe(level=1, house=house, seed=seed, book=book)]
                for row in (foes, quick):
                    for _ in range(5):
                        waiting = row[0].waiting()
                        told = [foe.call(as_lists(waiting[-1])) for foe in row[:2]] + [row[2].call(cell=waiting[-1])]
                        self.assertEqual(told, [told[0]] * 3)
                        self.assertIsInstance(told[1], tuple)
                        self.assertEqual([foe.house() for foe in row], [row[0].house()] * 3)
                        self.assertEqual([foe.log() for foe in row], [row[0].log()] * 3)
                        self.assertEqual([foe.waiting() for foe in row], [row[0].waiting()] * 3)
                        if not row[0].waiting():
                            break
                for foe in foes:
                    foe.settle()
                self.assertEqual([foe.world() for foe in foes], [foes[0].world()] * 3)
                self.assertEqual([foe.enough() for foe in foes], [foes[0].enough()] * 3)

    def test_changed_afterwards(self):
        for kind in (Foe, Quickfoe):
            book, seed, house, cell = as_lists(THREE), as_lists(WIDE), as_lists(HOUSES[1]), [1]
            foe, other = kind(book, seed, house, 1), kind(THREE, WIDE, HOUSES[1], 1)
            book[0][0], seed[1], house[0][0][0] = "g", ["a"], "f"
            del house[0][1:]
            self.assertEqual(foe.call(cell), other.call((1,)))
            cell[0] = 2
            for own in ((1, 2), (2,), (1, 1), (2, 3)):
                self.assertEqual(foe.call(own), other.call(own))
            self.assertEqual((foe.house(), foe.log(), foe.waiting()), (other.house(), other.log(), other.waiting()))

    def test_again(self):
        foe = Foe(THREE, WIDE, ONE, 2)
        foe.call((0,))
        foe.call((0, 2))
        for look in (foe.waiting, foe.house, foe.log, foe.bound):
            self.assertEqual(look(), look())
        foe.settle()
        self.assertEqual((foe.world(), foe.enough()), (foe.world(), foe.enough()))


if __name__ == "__main__":
    unittest.main()
