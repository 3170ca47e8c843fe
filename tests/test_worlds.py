"""[15]: WORLDS, wanted CELLS, rounds."""

import itertools
import random
import unittest

from notinvain.cells import all_cells, causes, cell_form, is_done, is_house, is_sure, ready
from notinvain.errors import CanNot, NoCell, TooMany, Unfit
from notinvain.worlds import all_lots, are_rounds, by_hands, can_make, house_led, in_vain, is_world, joined_house
from notinvain.worlds import least_lot, longest_chain, lot_ends, orders, reply_at, rounds, shared_house, wanted
from tests.houses import RIGHT, NoHouse, houses, plain_of, random_world
from tests.small import A, B, C, END, as_lists, more_things, odd_things, subsets

PLAN, WORLD = (("f", 1, 2), (), ()), (((2,), ("b",)),)
OUT_OF = random.Random(11)
WORLDS = [(book, house, plain, random_world(OUT_OF, book, house, 5)) for book, house, plain in houses(12, 900, 4, 2)]
FRESH = [(book, (house[0], ()), random_world(OUT_OF, book, (house[0], ()), 5)) for book, house, _ in houses(13, 900, 5, 0)]


def told(world, cell):
    return dict(world).get(cell, END)


def plain_rounds(book, house, world):
    """The rounds, and the CELLS behind them; None for more than 60 calls."""
    plain, rows, count = plain_of(book, house), [], 0
    while plain.ready():
        row = plain.ready()
        count += len(row)
        if count > 60:
            return None, plain
        for cell in row:
            plain.call(cell, told(world, cell))
        rows.append(tuple(row))
    return rows, plain


def ended_houses():
    """Ended HOUSES, with calls in vain among theirs, of at most 9 calls."""
    out = []
    for book, house, plain, world in WORLDS:
        rnd = random.Random(len(out))
        more = plain_of(book, house)
        while more.ready() and len(more.made) < 10:
            free = [cell for cell in sorted(more.own) if more.free(cell)]
            more.call(rnd.choice(free), told(world, rnd.choice(free)))
        if not more.ready() and len(more.made) < 10:
            out.append((book, more.house(), more))
    return out


ENDED = ended_houses()


def further_lots(book, house, world, most):
    """All sets of at most so many calls that can be made in world, each with whether it ends; None if too many."""
    found, waiting = {}, [()]
    while waiting:
        lot = waiting.pop()
        if lot in found:
            continue
        plain = plain_of(book, (house[0], tuple(house[1]) + tuple((cell, told(world, cell)) for cell in lot)))
        found[lot] = not plain.ready()
        if len(found) > 400:
            return None
        if len(lot) < most:
            for cell in plain.own:
                if plain.free(cell):
                    waiting.append(tuple(sorted(lot + (cell,))))
    return found


class Examples(unittest.TestCase):

    def test_right(self):
        self.assertEqual((rounds(RIGHT, (PLAN, ()), WORLD), least_lot(RIGHT, (PLAN, ()), WORLD)),
                         ([((1,), (2,)), ((0,),)], ((0,), (2,))))
        house = house_led(RIGHT, (PLAN, ()), WORLD, ((1,), (2,), (0,)))
        self.assertEqual((house[1], wanted(RIGHT, house), in_vain(RIGHT, house)),
                         ((((0,), ('end',)), ((1,), ('end',)), ((2,), ('b',))), ((0,), (2,)), ((1,),)))
        self.assertEqual((orders(RIGHT, house), longest_chain(RIGHT, house), by_hands(RIGHT, house, 2),
                          len(all_lots(RIGHT, house))), ((((2,), (0,)),), ((2,), (0,)), (((2,),), ((0,),)), 6))
        self.assertEqual((lot_ends(RIGHT, (PLAN, ()), WORLD, ((0,), (2,))), can_make(RIGHT, (PLAN, ()), WORLD, ((0,),)),
                          reply_at(WORLD, (1,))), (True, False, ('end',)))
        self.assertEqual((are_rounds(RIGHT, house, 1, (((2,),), ((0,),))),
                          shared_house(RIGHT, house, (PLAN, (((2,), ("b",)),)))[1]), (True, (((2,), ('b',)),)))


class Things(unittest.TestCase):

    def test_worlds(self):
        for thing in ((), WORLD, (((0,), 0), ((0, 1), ()), ((1,), ("f", (), 3))), (((5, 5), ("mark",)),), (((9,), END),),
                      tuple(((number,), ()) for number in range(100))):
            self.assertIs(is_world(thing), True, thing)
        for thing in ([], list(WORLD), (list(WORLD[0]),), WORLD + WORLD, (((2,), A), ((2,), B)), (((2,), A), ((1,), B)),
                      (((), A),), (((-1,), A),), (((True,), A),), (((2,), -1),), (((2,), True),), (((2,), None),), (((2,),),),
                      (((2,), A, ()),), ((2,), A), (((2,), ["a"]),), (([2], A),), ((None, A),), None, 0, "", {}):
            self.assertIs(is_world(thing), False, thing)
        for thing in odd_things() + more_things():
            own = thing == () or thing == (((0,), 0),) or thing == (((0,), A),) or thing == (((0,), 10 ** 30),)
            self.assertIs(is_world(thing), own and isinstance(thing, tuple), thing)

    def test_many_worlds(self):
        for book, house, _, world in WORLDS:
            self.assertIs(is_world(world), True)
            self.assertIs(is_world(as_lists(world)), False)
            if len(world) > 1:
                self.assertIs(is_world(world[::-1]), False)
            for cell, reply in world:
                self.assertEqual(reply_at(world, cell), reply)
            self.assertEqual(reply_at(world, (77, 7)), END)
        self.assertEqual(reply_at([[[2], ["b"]]], [2]), B)


class Leading(unittest.TestCase):

    def test_house_led(self):
        rnd = random.Random(4)
        for book, house, plain, world in WORLDS:
            more, log = plain_of(book, house), []
            for _ in range(4):
                free = [cell for cell in sorted(more.own) if more.free(cell)]
                if not free:
                    break
                log.append(rnd.choice(free))
                more.call(log[-1], told(world, log[-1]))
            self.assertEqual(house_led(book, house, world, tuple(log)), more.house())
            self.assertIs(is_house(book, more.house()), True)
            with self.assertRaises(NoCell) as caught:
                house_led(book, house, world, tuple(log) + ((9, 9), (8, 8)))
            self.assertEqual(caught.exception.cell, (9, 9))
            if log:
                self.assertRaises(CanNot, house_led, book, house, world, tuple(log) + (log[0], (9, 9)))
            for order in itertools.permutations(log):
                other = plain_of(book, house)
                wrong = None
                for cell in order:
                    if cell not in other.own:
                        wrong = NoCell
                        break
                    try:
                        other.call(cell, told(world, cell))
                    except NoHouse:
                        wrong = CanNot
                        break
                if wrong is None:
                    self.assertEqual(house_led(book, house, world, order), more.house())
                else:
                    self.assertRaises(wrong, house_led, book, house, world, order)

    def test_which_error_comes_first(self):
        house = (PLAN, ())
        self.assertRaises(CanNot, house_led, RIGHT, house, WORLD, ((0,), (7,)))
        self.assertRaises(NoCell, house_led, RIGHT, house, WORLD, ((7,), (0,)))
        self.assertRaises(NoCell, house_led, RIGHT, house, WORLD, ((2,), (0, 0), (0,)))
        self.assertRaises(CanNot, house_led, RIGHT, house, WORLD, ((2,), (0,), (0,)))
        self.assertEqual(house_led(RIGHT, house, WORLD, ()), house)

    def test_rounds(self):
        for book, house, plain, world in WORLDS:
            own, _ = plain_rounds(book, house, world)
            if own is None:
                self.assertRaises(TooMany, rounds, book, house, world)
            else:
                self.assertEqual(rounds(book, house, world), own)

    def test_lots(self):
        rnd = random.Random(6)
        for book, house, plain, world in WORLDS[::2]:
            found = further_lots(book, house, world, 3)
            if found is None:
                continue
            cells = sorted({cell for lot in found for cell in lot})
            for size in range(4):
                for lot in [tuple(sorted(rnd.sample(cells, size))) for _ in range(3)] if size <= len(cells) else []:
                    self.assertIs(can_make(book, house, world, lot), lot in found)
                    self.assertIs(can_make(book, house, world, lot[::-1]), lot in found)
                    self.assertIs(lot_ends(book, house, world, lot), found.get(lot, False))
            self.assertIs(can_make(book, house, world, ((99,),)), False)
            self.assertIs(lot_ends(book, house, world, ((99,),)), False)

    def test_least_lot(self):
        many = 0
        for book, house, plain, world in WORLDS:
            own, behind = plain_rounds(book, house, world)
            if own is None:
                self.assertRaises(TooMany, least_lot, book, house, world)
                continue
            least = least_lot(book, house, world)
            self.assertIs(lot_ends(book, house, world, least), True)
            self.assertEqual(least, tuple(cell for cell in wanted(book, behind.house()) if cell not in plain.made))
            for cell in plain.ready():
                if is_sure(book, house, cell):
                    self.assertIn(cell, least)
            found = further_lots(book, house, world, len(least) + 1) if len(least) < 4 else None
            if found is not None:
                many += 1
                self.assertIs(found[least], True)
                self.assertTrue(all(set(least) <= set(lot) for lot in found if found[lot]))
        self.assertGreater(many, 100)


class Wanted(unittest.TestCase):

    def test_beside_all_parts(self):
        self.assertGreater(len(ENDED), 150)
        for book, house, plain in ENDED:
            rows = []
            for rest in subsets(house[1]) if len(house[1]) < 8 else ():
                own = plain_of(book, (house[0], rest))
                if own is not None and not own.ready():
                    rows.append(({pair[0] for pair in rest}, own.stands((0,))))
            kept, vain = wanted(book, house), in_vain(book, house)
            self.assertEqual(tuple(sorted(kept + vain)), tuple(cell for cell, _ in house[1]))
            self.assertEqual((list(kept), list(vain)), (sorted(kept), sorted(vain)))
            if rows:
                least = min([row[0] for row in rows], key=len)
                self.assertTrue(all(least <= row[0] for row in rows))
                self.assertTrue(all(row[1] == plain.stands((0,)) for row in rows))
                self.assertEqual(kept, tuple(sorted(least)))
            rest = tuple(pair for pair in house[1] if pair[0] in kept)
            self.assertEqual(cell_form(book, (house[0], rest), (0,)), plain.stands((0,)))
            self.assertIs(is_done(book, (house[0], rest)), True)
        self.assertTrue(any(in_vain(book, house) for book, house, _ in ENDED))

    def test_not_ended(self):
        house = (PLAN, (((2,), B),))
        for deed in (wanted, in_vain, longest_chain):
            self.assertRaises(CanNot, deed, RIGHT, house)
        for hands in (1, 2, 10 ** 6):
            self.assertRaises(CanNot, by_hands, RIGHT, house, hands)
            self.assertRaises(CanNot, are_rounds, RIGHT, house, hands, ())
        for hands in (0, -1, -10 ** 6):
            for own in (house, (PLAN, (((0,), END), ((2,), B)))):
                self.assertRaises(Unfit, by_hands, RIGHT, own, hands)
                self.assertRaises(Unfit, are_rounds, RIGHT, own, hands, ())
                self.assertRaises(Unfit, are_rounds, RIGHT, own, hands, None)

    def test_orders(self):
        for book, house, plain in ENDED + [row[:3] for row in WORLDS]:
            own = [(one, other) for other in plain.made for one in causes(book, house, other)]
            self.assertEqual(orders(book, house), tuple(sorted(own)))

    def test_longest_chain(self):
        for book, house, plain in ENDED:
            kept = wanted(book, house)
            above = {cell: causes(book, house, cell) for cell in kept}
            rows, longer = [()], [(cell,) for cell in kept]
            while longer:
                rows = longer
                longer = [row + (cell,) for row in rows for cell in kept if row[-1] in above[cell]]
            self.assertEqual(longest_chain(book, house), min(rows))

    def test_as_many_rounds_as_the_chain(self):
        for book, house, world in FRESH:
            own, behind = plain_rounds(book, house, world)
            if own is not None:
                self.assertEqual(len(rounds(book, house, world)), len(longest_chain(book, behind.house())))
                self.assertEqual(least_lot(book, house, world), wanted(book, behind.house()))
                self.assertEqual(len(by_hands(book, behind.house(), 99)), len(own))

    def test_one_form(self):
        rnd = random.Random(8)
        for book, house, plain, world in WORLDS:
            own, behind = plain_rounds(book, house, world)
            other = plain_of(book, house)
            while own is not None and other.ready() and len(other.made) < 20:
                cell = rnd.choice([cell for cell in sorted(other.own) if other.free(cell)])
                other.call(cell, told(world, cell))
            if own is not None and not other.ready():
                self.assertEqual(other.stands((0,)), behind.stands((0,)))
                shared = shared_house(book, behind.house(), other.house())
                self.assertIs(is_done(book, shared), True)
                self.assertEqual(cell_form(book, shared, (0,)), behind.stands((0,)))


def chain_lengths(book, house):
    """For each CELL wanted how long the longest chain is that leads on from it."""
    kept = wanted(book, house)
    above = {cell: causes(book, house, cell) for cell in kept}

    def length(cell):
        return 1 + max([length(other) for other in kept if cell in above[other]], default=0)
    return {cell: length(cell) for cell in kept}, above


class Hands(unittest.TestCase):

    def test_by_hands(self):
        for book, house, plain in ENDED:
            lengths, above = chain_lengths(book, house)
            for hands in (1, 2, 3, 10 ** 6):
                left, out = set(lengths), []
                while left:
                    free = [cell for cell in left if not set(above[cell]) & left]
                    row = sorted(free, key=lambda cell: (-lengths[cell], cell))[:hands]
                    out.append(tuple(sorted(row)))
                    left -= set(row)
                self.assertEqual(by_hands(book, house, hands), tuple(out))
                self.assertIs(are_rounds(book, house, hands, tuple(out)), True)
                many, longest = len(lengths), max(lengths.values(), default=0)
                self.assertLessEqual(len(out) * hands, many + (hands - 1) * longest)
                self.assertGreaterEqual(len(out), max(longest, -(-many // hands)))

    def test_all_small_rounds(self):
        for book, house, plain in ENDED[::3]:
            kept = wanted(book, house)
            _, above = chain_lengths(book, house)
            for hands in (1, 2):
                for order in itertools.permutations(kept) if len(kept) < 5 else ():
                    for cut in range(1, hands + 1):
                        rows = tuple(tuple(sorted(order[at:at + cut])) for at in range(0, len(order), cut))
                        done, good = set(), True
                        for row in rows:
                            good = good and all(set(above[cell]) <= done for cell in row)
                            done |= set(row)
                        self.assertIs(are_rounds(book, house, hands, rows), good)

    def test_spoiled(self):
        plan = (("k", 1, 2), ("f", 3, 4), (), (), ())
        house = (plan, (((1,), A), ((2,), B), ((3,), C), ((4,), B)))
        self.assertEqual(wanted(RIGHT, house), ((1,), (2,), (4,)))
        true = (((2,), (4,)), ((1,),))
        self.assertEqual(by_hands(RIGHT, house, 2), true)
        for thing in (true, (((4,),), ((1,), (2,))), (((4,),), ((2,),), ((1,),)), (((2,),), ((4,),), ((1,),))):
            self.assertIs(are_rounds(RIGHT, house, 2, thing), True, thing)
        for thing in (true[::-1], true[:1], true + ((),), ((),) + true, true + (((1,),),), true + (((3,),),), list(true), true[0],
                      (list(true[0]), true[1]), (((4,), (2,)), ((1,),)), (([2], (4,)), ((1,),)), (((2,), (4,), (1,)),), (), None,
                      (((2,), (3,)), ((4,),), ((1,),)), (((2,), (2,)), ((4,),), ((1,),)), (((2,), (4,)), ((True,),)),
                      (((2,), (4,)), ((1,), (9,))), (((2,), (4,)), (1,)), (((2,), (4,)), ((1, 0),)), (((2,), (4,)), ()),
                      (((2,), (4,)), ((1,), (2,)))):
            self.assertIs(are_rounds(RIGHT, house, 2, thing), False, thing)
        self.assertIs(are_rounds(RIGHT, house, 1, true), False)
        self.assertIs(are_rounds(RIGHT, (((),), (((0,), END),)), 1, (((0,),),)), True)
        self.assertIs(are_rounds(RIGHT, (((),), (((0,), END),)), 1, (((False,),),)), False)
        for thing in odd_things() + more_things():
            self.assertIs(are_rounds(RIGHT, house, 2, thing), False, thing)
            self.assertIs(are_rounds(RIGHT, house, 2, (true[0], thing)), False, thing)
            self.assertIs(are_rounds(RIGHT, house, 2, (true[0], (thing,))), False, thing)

    def test_nothing_wanted(self):
        house = ((A, ()), (((1,), B),))
        self.assertEqual((wanted(RIGHT, house), in_vain(RIGHT, house), longest_chain(RIGHT, house), by_hands(RIGHT, house, 1)),
                         ((), ((1,),), (), ()))
        self.assertIs(are_rounds(RIGHT, house, 1, ()), True)
        self.assertIs(are_rounds(RIGHT, house, 1, []), False)
        self.assertIs(are_rounds(RIGHT, house, 1, ((),)), False)


class Parts(unittest.TestCase):

    def test_all_lots(self):
        for book, house, plain in ENDED + [row[:3] for row in WORLDS]:
            if len(house[1]) < 8:
                own = [tuple(pair[0] for pair in rest) for rest in subsets(house[1])
                       if plain_of(book, (house[0], rest)) is not None]
                self.assertEqual(all_lots(book, house), tuple(sorted(own)))

    def test_bound(self):
        plan = (("k", 1, 2),) + ((),) * 11
        calls = tuple(((number,), A) for number in range(1, 12))
        self.assertEqual(len(all_lots(RIGHT, (plan, calls[:10]))), 1024)
        self.assertRaises(TooMany, all_lots, RIGHT, (plan, calls))
        self.assertEqual(all_lots(RIGHT, (plan, ())), ((),))

    def test_shared_and_joined(self):
        rnd = random.Random(2)
        for book, house, plain in ENDED + [row[:3] for row in WORLDS]:
            if len(house[1]) > 7:
                continue
            rows = [rest for rest in subsets(house[1]) if plain_of(book, (house[0], rest)) is not None]
            for _ in range(3):
                one, two = rnd.choice(rows), rnd.choice(rows)
                shared = tuple(pair for pair in house[1] if pair in one and pair in two)
                both = tuple(pair for pair in house[1] if pair in one or pair in two)
                args = (book, (house[0], one), (house[0], two))
                self.assertEqual(shared_house(*args), (house[0], shared))
                self.assertEqual(joined_house(*args), (house[0], both))
                self.assertIs(is_house(book, shared_house(*args)), True)
                self.assertIs(is_house(book, joined_house(*args)), True)

    def test_unfit(self):
        for deed in (shared_house, joined_house):
            self.assertRaises(Unfit, deed, RIGHT, (PLAN, ()), (PLAN[:1] + ((), A), ()))
            self.assertRaises(Unfit, deed, RIGHT, (PLAN, ()), (PLAN + ((),), ()))
            self.assertRaises(Unfit, deed, RIGHT, (PLAN, (((2,), A),)), (PLAN, (((2,), B),)))
            self.assertRaises(Unfit, deed, RIGHT, (PLAN, (((1,), A), ((2,), 0))), (PLAN, (((2,), 1),)))
        self.assertEqual(joined_house(RIGHT, (PLAN, (((2,), A),)), (PLAN, (((1,), B),))), (PLAN, (((1,), B), ((2,), A))))


class Bounds(unittest.TestCase):

    def test_sixty_calls(self):
        # Each reply at (0, .., 0) is OPEN again, so often.
        for many, fits in ((59, True), (60, False), (61, False)):
            world = tuple(((0,) * (number + 1), ()) for number in range(many))
            house = (((),), ())
            if fits:
                self.assertEqual(len(rounds(RIGHT, house, world)), many + 1)
                self.assertEqual(len(least_lot(RIGHT, house, world)), many + 1)
            else:
                self.assertRaises(TooMany, rounds, RIGHT, house, world)
                self.assertRaises(TooMany, least_lot, RIGHT, house, world)
        world = tuple(((0,) * (number + 1), ()) for number in range(60))
        house = house_led(RIGHT, (((),), ()), world, ((0,),))
        self.assertEqual(len(rounds(RIGHT, house, world)), 60)
        self.assertEqual(len(least_lot(RIGHT, house, world)), 60)

    def test_a_round_of_many(self):
        plan = (("k", 1, 1, 2), ("k", 3, 4, 5), ("k", 6, 7, 8)) + ((),) * 6
        nine = ("k", ("k", (), (), ()), ("k", (), (), ()), ("k", (), (), ()))
        world = tuple(((number,), nine) for number in range(3, 9))
        self.assertEqual([len(row) for row in rounds(RIGHT, (plan, ()), world)], [6, 54])
        world = world[:5] + (((8,), ("k", nine, (), ())),)
        self.assertRaises(TooMany, rounds, RIGHT, (plan, ()), world)

    def test_a_cell_that_stops_being_met_is_called_all_the_same(self):
        plan, world = (("f", 1, 2), (), B), (((0,), END),)
        self.assertEqual(rounds(RIGHT, (plan, ()), world), [((0,), (1,))])
        self.assertEqual(least_lot(RIGHT, (plan, ()), world), ((0,),))

    def test_all_cells_of_ended_houses(self):
        for book, house, plain in ENDED[:50]:
            self.assertEqual(all_cells(book, house), tuple(sorted(plain.own)))
            self.assertEqual(ready(book, house), ())


if __name__ == "__main__":
    unittest.main()
