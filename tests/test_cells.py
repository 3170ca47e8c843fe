"""[14]: PLANS, REPLIES, HOUSES, CELLS."""

import itertools
import random
import unittest

from notinvain.blots import blot
from notinvain.cells import all_cells, causes, cell_form, cell_places, cell_side, end_of, found_cells, is_cell_name
from notinvain.cells import is_done, is_house, is_plan, is_reply, is_sure, met_cells, node_of, own_cell, placed
from notinvain.cells import plan_of, ready, tasks_of, with_call
from notinvain.errors import CanNot, NoCell, NoPlace, TooMany
from notinvain.runs import is_ended, tasks
from tests.houses import BOOKS, CHAIN, RIGHT, STEPS, THREE, TURN, Plain, houses, names_for, plain_bars, plain_of
from tests.houses import random_reply, small
from tests.small import A, B, END, FEW_SIGNS, as_lists, forms_of, more_things, odd_things, plain_lies, plain_spots
from tests.small import subsets

HOUSES = houses(7, 1200)
FEW_CALLS = [row for row in houses(8, 1500, 4, 6) if 2 <= len(row[1][1]) <= 6][:400]
PLAN = (("f", 1, 1, 2), (), ())
NO_CELLS = ((9,), (0, 0, 0, 0, 0, 0, 0, 0), (0, 99), (-1,))


class Examples(unittest.TestCase):

    def test_three(self):
        self.assertEqual((ready(THREE, (PLAN, ())), is_sure(THREE, (PLAN, ()), (1,)), is_sure(THREE, (PLAN, ()), (2,))),
                         (((1,), (2,)), True, False))
        house = with_call(THREE, (PLAN, ()), (1,), A)
        self.assertEqual((house[1], cell_form(THREE, house, (0,)), end_of(THREE, house, (1,))),
                         ((((1,), ('a',)),), ('f', ('a',), ('a',), ()), (1, 0)))
        self.assertEqual((cell_places(THREE, house, (1,)), is_done(THREE, house), causes(THREE, house, (1,)),
                          plan_of(("f", (), ("a",)))), (((0,), (1,)), False, (), (('f', 1, 2), (), ('a',))))

    def test_right(self):
        house = ((("f", 1, 2), (), ()), (((2,), ("b",)),))
        self.assertEqual((cell_side(RIGHT, house, (0,)), found_cells(RIGHT, house, (0,)), causes(RIGHT, house, (0,)),
                          own_cell(RIGHT, house, (2,))), (('f', (), ('b',)), ((1,),), ((2,),), ()))
        self.assertEqual(cell_form(RIGHT, with_call(RIGHT, house, (0,), ("g", 0, 5)), (0,)), ('g', (), ('end',)))
        self.assertEqual(node_of(("g", 0, ("h", ())), (1, 0)), 3)


class Things(unittest.TestCase):

    def test_plans(self):
        for thing in (((),), (A,), (("f", 1, 1, 2), (), ()), (("g", 1), ("g", 2), ("end",)), ((), (), ("mark",)), (A, ()),
                      tuple(("g", number + 1) for number in range(50)) + ((),)):
            self.assertIs(is_plan(thing), True, thing)
        for thing in ((), [()], [["a"]], (["a"],), (("g", 0),), (("g", 1),), (("g", True), ()), (("g", -1), ()), ("a",),
                      ((), ("g", 1)), (("g", 2), ()), (("g", 1, 1, 1, 1), ()), (("G", 1), ()), (("", 1), ()), None, 0,
                      (("g", ()), ()), (("g", 1, None), ()), ((1,), ()), (("g", "1"), ()), ((), None), (("g", 1.0), ()),
                      (("abcdefghi",),)):
            self.assertIs(is_plan(thing), False, thing)
        for thing in odd_things() + [thing for thing in more_things() if thing not in (((),), ((), ()))]:
            self.assertIs(is_plan(thing), False, thing)

    def test_all_small_plans(self):
        cells = [(), A, ("g", 0), ("g", 1), ("g", 2), ("g", 3), ("f", 1, 2), ("f", 2, 2), ("f", 2, 1), ("f", 3, 2)]
        for many in range(1, 4):
            for thing in itertools.product(cells, repeat=many):
                own = all(number < part < many for number, cell in enumerate(thing) for part in cell[1:])
                self.assertIs(is_plan(thing), own)

    def test_replies(self):
        for thing in ((), 0, 1, 10 ** 30, A, ("f", 0, (), ("g", 1)), ("mark",), ("end",), ("k", 0, 0, 0)):
            self.assertIs(is_reply(thing), True, thing)
        for thing in (-1, True, False, None, "a", [], ["a"], ("f", []), ("f", -1), ("f", True), ("f", None), ("f", "a"), (0,),
                      ("f", 0, 0, 0, 0), ("A",), ("",), ("abcdefghi",), ((),), ("f", (0,)), ("f", ("g", False))):
            self.assertIs(is_reply(thing), False, thing)
        for thing in odd_things() + more_things():
            own = thing in (0, 1, 2, 10 ** 30, ("f", 0), ("f", ("g", 0))) and not isinstance(thing, (bool, list))
            self.assertIs(is_reply(thing), own, thing)

    def test_cell_names(self):
        for thing in ((0,), (3, 0, 11), (10 ** 30,), (0,) * 1000):
            self.assertIs(is_cell_name(thing), True, thing)
        for thing in ((), [0], (-1,), (0, -1), (True,), (0, False), (None,), ("0",), ((0,),), 0, None, "0", (0, ())):
            self.assertIs(is_cell_name(thing), False, thing)
        for thing in odd_things() + more_things():
            self.assertIs(is_cell_name(thing), thing in ((0,), (1, 2)) and not isinstance(thing[0], bool), thing)

    def test_houses(self):
        plan = (("f", 1, 2), (), ())
        one, two = ((0,), END), ((2,), B)
        for calls in ((), (two,), (one, two), (((1,), 7), two), (one, two, ((2, 0), A))[:2]):
            self.assertIs(is_house(RIGHT, (plan, calls)), True, calls)
        for calls in ((one,), (two, one), (one, one, two), [two], (list(two),), (two, two), (two, ((2,), A)), (two, ((7,), A)),
                      (two, ((2, 0), A)), (((2,), ("b", True)),), (((2,), True),), (((True,), B),), (((2,), B, ()),), (two[0],),
                      None, 0, ((2,), B), (((), B),), (((2,), -1),), (((-1,), B),), (([2], B),), (((2,), ["b"]),), (((2,), A), one)):
            self.assertIs(is_house(RIGHT, (plan, calls)), False, calls)
        for thing in ([plan, ()], (list(plan), ()), (plan,), (plan, (), ()), ((), plan), (plan, None), None, (), (plan, ((),))):
            self.assertIs(is_house(RIGHT, thing), False, thing)
        for thing in odd_things() + more_things():
            self.assertIs(is_house(RIGHT, thing), False, thing)
            self.assertIs(is_house(RIGHT, (thing, ())), is_plan(thing), thing)
            self.assertIs(is_house(RIGHT, (plan, thing)), thing == () and isinstance(thing, tuple), thing)
            self.assertIs(is_house(RIGHT, (plan, (((1,), thing), two))), is_reply(thing), thing)

    def test_many_houses(self):
        for book, house, _ in HOUSES:
            self.assertIs(is_house(book, house), True)
            self.assertIs(is_house(book, as_lists(house)), False)
            self.assertIs(is_house(as_lists(book), house), True)
            if len(house[1]) > 1:
                self.assertIs(is_house(book, (house[0], house[1][::-1])), False)

    def test_what_cannot_be_made(self):
        for book, house, plain in HOUSES:
            for cell in list(plain.own) + [(9,), (0, 9)]:
                if cell not in plain.made:
                    calls = tuple(sorted(house[1] + ((cell, A),), key=lambda pair: pair[0]))
                    self.assertIs(is_house(book, (house[0], calls)), plain_of(book, (house[0], calls)) is not None)


class Plans(unittest.TestCase):

    def test_plan_of(self):
        for form in forms_of(FEW_SIGNS, 5):
            plan, places = plan_of(form), sorted(plain_spots(form))
            self.assertEqual(len(plan), len(places))
            for place, cell in zip(places, plan):
                part = plain_spots(form)[place]
                self.assertEqual(cell[:1], part[:1])
                self.assertEqual([places[number] for number in cell[1:]],
                                 [place + (number,) for number in range(len(part) - 1)])
            self.assertIs(is_plan(plan), True)
            self.assertEqual(cell_form(RIGHT, (plan, ()), (0,)), form)
            self.assertEqual(cell_places(RIGHT, (plan, ()), (0,)), ((),))

    def test_node_of(self):
        reply = ("f", ("g", 0), (), ("k", ("a",), 1, ("g", ())))
        order = [(), (0,), (0, 0), (1,), (2,), (2, 0), (2, 1), (2, 2), (2, 2, 0)]
        self.assertEqual([node_of(reply, place) for place in order], list(range(9)))
        self.assertEqual(node_of(5, ()), 0)
        self.assertEqual(node_of((), ()), 0)
        for place in ((0, 0, 0), (1, 0), (2, 1, 0), (3,), (-1,), (2, 0, 0), (2, 3)):
            with self.assertRaises(NoPlace) as caught:
                node_of(reply, place)
            self.assertEqual(caught.exception.place, place)
        self.assertRaises(NoPlace, node_of, 7, (0,))


class Cells(unittest.TestCase):

    def test_as_the_words_say(self):
        for book, house, plain in HOUSES:
            self.assertEqual(all_cells(book, house), tuple(sorted(plain.own)))
            for cell in plain.own:
                self.assertEqual(own_cell(book, house, cell), plain.own[cell])
                self.assertEqual(end_of(book, house, cell), plain.end(cell))
                self.assertEqual(cell_form(book, house, cell), plain.stands(cell))
                self.assertEqual(cell_side(book, house, cell), plain.side(cell))
                self.assertEqual(found_cells(book, house, cell), tuple(plain.found(plain.end(cell))))

    def test_met(self):
        for book, house, plain in HOUSES:
            met = plain.placed()
            self.assertEqual(placed(book, house), sorted(met.items()))
            self.assertEqual(met_cells(book, house), tuple(sorted(set(met.values()))))
            self.assertEqual(ready(book, house), tuple(plain.ready()))
            self.assertIs(is_done(book, house), not plain.ready())
            self.assertIs(is_done(book, house), is_ended(book, plain.stands((0,))))
            own = {met[place] for place in tasks(book, plain.stands((0,)))}
            self.assertEqual(tasks_of(book, house), tuple(sorted(own)))
            for cell in plain.own:
                places = [place for place, other in met.items() if other == plain.end(cell)]
                self.assertEqual(cell_places(book, house, cell), tuple(sorted(places)))

    def test_with_call(self):
        for number, (book, house, plain) in enumerate(HOUSES):
            reply = random_reply(random.Random(number), names_for(book))
            for cell in plain.own:
                if not plain.free(cell):
                    self.assertRaises(CanNot, with_call, book, house, cell, reply)
                    continue
                more = plain_of(book, house)
                more.call(cell, reply)
                own = with_call(book, house, cell, reply)
                self.assertEqual(own, more.house())
                self.assertEqual(all_cells(book, own), tuple(sorted(more.own)))
                if small(more, 60):
                    self.assertIs(plain_lies(blot(book, plain.stands((0,))), blot(book, more.stands((0,)))), True)

    def test_replies_that_are_numbers(self):
        plan = (("f", 1, 2), ("g", 3), (), ())
        house = (plan, (((2,), B),))
        for reply, end, form in ((0, (1,), ("g", ())), (1, (0, 0), END), (9, (0, 0), END)):
            own = with_call(RIGHT, house, (0,), reply)
            self.assertEqual((end_of(RIGHT, own, (0,)), cell_form(RIGHT, own, (0,))), (end, form))
        for reply in (0, 5):
            own = with_call(RIGHT, (plan, ()), (2,), reply)
            self.assertEqual((end_of(RIGHT, own, (2,)), own_cell(RIGHT, own, (2, 0))), ((2, 0), END))
        own = with_call(RIGHT, (plan, ()), (3,), ("k", 0, (), ("g", 1)))
        self.assertEqual(own_cell(RIGHT, own, (3, 0)), ("k", (3, 1), (3, 2), (3, 3)))
        self.assertEqual((own_cell(RIGHT, own, (3, 1)), own_cell(RIGHT, own, (3, 4))), (END, END))

    def test_a_link_is_found_as_it_is(self):
        plan = (("f", 1, 2), (), ())
        house = (plan, (((1,), ("g", ())), ((2,), B)))
        self.assertEqual(found_cells(RIGHT, house, (0,)), ((1,),))
        own = with_call(RIGHT, house, (0,), 0)
        self.assertEqual(end_of(RIGHT, own, (0,)), (1, 0))
        self.assertEqual(causes(RIGHT, own, (1, 1)), ((1,),))
        own = with_call(RIGHT, (plan, (((2,), B),)), (0,), ("k", 0, 0, 0))
        self.assertEqual(own_cell(RIGHT, own, (0, 0)), ("k", (1,), (1,), (1,)))
        own = with_call(RIGHT, own, (1,), A)
        self.assertEqual(cell_form(RIGHT, own, (0,)), ("k", A, A, A))

    def test_reached_from_nowhere(self):
        house = ((A, (), ("f", 3, 4), (), B), ())
        self.assertEqual((met_cells(RIGHT, house), ready(RIGHT, house), tasks_of(RIGHT, house)), (((0,),), (), ()))
        own = with_call(RIGHT, house, (2,), ("k", 0, 0))
        self.assertEqual((cell_form(RIGHT, own, (2,)), cell_places(RIGHT, own, (2,))), (("k", (), ()), ()))
        self.assertIs(is_sure(RIGHT, own, (1,)), False)
        self.assertIs(is_done(RIGHT, own), True)

    def test_no_cell(self):
        house = ((("f", 1, 2), (), ()), (((2,), B),))
        looks = (own_cell, end_of, cell_form, cell_places, cell_side, found_cells, causes, is_sure,
                 lambda book, own, cell: with_call(book, own, cell, A))
        for look in looks:
            for cell in NO_CELLS:
                with self.assertRaises(NoCell) as caught:
                    look(RIGHT, house, cell)
                self.assertEqual(caught.exception.cell, cell)
                with self.assertRaises(NoCell) as caught:
                    look(RIGHT, as_lists(house), list(cell))
                self.assertEqual(caught.exception.cell, cell)

    def test_cannot(self):
        house = ((("f", 1, 2), ("g", 3), (), ()), (((2,), B),))
        self.assertRaises(CanNot, with_call, RIGHT, house, (2,), A)
        self.assertRaises(CanNot, with_call, RIGHT, house, (1,), A)
        self.assertRaises(CanNot, with_call, RIGHT, house, (2, 0), A)
        self.assertRaises(CanNot, causes, RIGHT, house, (1,))
        self.assertRaises(CanNot, is_sure, RIGHT, house, (1,))
        self.assertRaises(CanNot, is_sure, RIGHT, house, (2,))
        self.assertEqual(causes(RIGHT, house, (2,)), ())
        self.assertIs(is_sure(RIGHT, house, (0,)), True)


class Bounds(unittest.TestCase):

    def test_just_at_the_bound(self):
        plan = (("f", 1, 2, 3), ("k", 4, 4), (), ("g", 2)) + tuple(("k", number + 1, number + 1) for number in range(4, 10)) + ((),)
        base = len(placed(RIGHT, (plan, ())))
        self.assertEqual(base, 1 + 255 + 1 + 2)
        house, at, count = (plan, ()), (2,), base
        while count < 300:
            # The CELL stands twice, so each call at its end makes two PLACES more.
            house = with_call(RIGHT, house, at, ("g", ()))
            at, count = at + (1,), count + 2
            if count <= 300:
                self.assertEqual(len(placed(RIGHT, house)), count)
        self.assertEqual(count, 301)
        for look in (lambda: cell_form(RIGHT, house, (0,)), lambda: placed(RIGHT, house),
                     lambda: cell_places(RIGHT, house, at), lambda: is_sure(RIGHT, house, at)):
            self.assertRaises(TooMany, look)
        self.assertEqual(len(plain_spots(cell_form(RIGHT, house, (1,)))), 255)
        self.assertRaises(NoCell, cell_places, RIGHT, house, (99,))
        self.assertRaises(CanNot, is_sure, RIGHT, house, (1,))
        self.assertRaises(CanNot, with_call, RIGHT, house, (1,), A)
        self.assertEqual(ready(RIGHT, house), tuple(sorted([at, (10,)])))
        house = with_call(RIGHT, (plan, house[1][:-1]), house[1][-1][0], ("g", 0))
        self.assertRaises(TooMany, cell_form, RIGHT, house, (0,))

    def test_three_hundred_and_one(self):
        plan = (("k", 1, 9), ("k", 2, 2)) + tuple(("k", number + 1, number + 1) for number in range(2, 8)) + ((), ())
        house, at = (plan, ()), (9,)
        self.assertEqual(len(placed(RIGHT, house)), 1 + 255 + 1)
        for _ in range(43):
            house = with_call(RIGHT, house, at, ("g", ()))
            at = at + (1,)
        self.assertEqual(len(placed(RIGHT, house)), 300)
        self.assertIs(is_sure(RIGHT, house, at), True)
        self.assertEqual(cell_places(RIGHT, house, at), ((1,) + (0,) * 43,))
        self.assertEqual(len(plain_spots(cell_form(RIGHT, house, (0,)))), 300)
        house = with_call(RIGHT, house, at, ("g", ()))
        for look in (lambda: cell_form(RIGHT, house, (0,)), lambda: placed(RIGHT, house),
                     lambda: cell_places(RIGHT, house, (9,)), lambda: is_sure(RIGHT, house, at + (1,))):
            self.assertRaises(TooMany, look)

    def test_far_beyond_the_bound(self):
        plan = tuple(("f", number + 1, number + 1, number + 1) for number in range(19)) + ((),)
        for look in (cell_form, cell_places):
            self.assertRaises(TooMany, look, THREE, (plan, ()), (0,))
        self.assertEqual(ready(THREE, (plan, ())), ((19,),))
        self.assertEqual(cell_form(THREE, (plan, ()), (17,)), ("f",) + (("f", (), (), ()),) * 3)

    def test_sixty_calls(self):
        house, at = ((("k", 1, 2), (), ()), ()), (1,)
        for number in range(60):
            house = with_call(CHAIN, house, at, ("h", 0) if number % 2 else ())
            at = at + (0,)
        self.assertEqual(len(house[1]), 60)
        self.assertIs(is_house(CHAIN, house), True)
        self.assertEqual(causes(CHAIN, house, at), tuple([(1,) + (0,) * number for number in range(60)]))
        self.assertEqual(end_of(CHAIN, house, (1,)), at)


class Causes(unittest.TestCase):

    def test_least_part(self):
        for book, house, plain in FEW_CALLS:
            parts = [(rest, plain_of(book, (house[0], rest))) for rest in subsets(house[1])]
            for cell in plain.own:
                if cell not in plain.made and not plain.free(cell):
                    self.assertRaises(CanNot, causes, book, house, cell)
                    continue
                rows = [{pair[0] for pair in rest} for rest, own in parts
                        if own is not None and cell not in own.made and own.free(cell)]
                least = min(rows, key=len)
                self.assertTrue(all(least <= row for row in rows))
                self.assertEqual(causes(book, house, cell), tuple(sorted(least)))

    def test_parts_that_are_houses(self):
        for book, house, plain in FEW_CALLS:
            own = {cell: set(causes(book, house, cell)) for cell in plain.made}
            for rest in subsets(house[1]):
                cells = {pair[0] for pair in rest}
                closed = all(own[cell] <= cells for cell in cells)
                self.assertIs(is_house(book, (house[0], rest)), closed)

    def test_whatever_the_order(self):
        rnd = random.Random(3)
        for book, house, plain in FEW_CALLS:
            for _ in range(3):
                left, other = list(house[1]), Plain(book, house[0])
                while left:
                    pair = rnd.choice([pair for pair in left if other.free(pair[0])])
                    other.call(*pair)
                    left.remove(pair)
                self.assertEqual((other.own, other.link), (plain.own, plain.link))
                own = (house[0], ())
                for cell, reply in other.made.items():
                    own = with_call(book, own, cell, reply)
                self.assertEqual(own, house)

    def test_links_within_a_pattern(self):
        plan = (("h", 1), ())
        house = with_call(STEPS, (plan, ()), (1,), ("k", ()))
        house = with_call(STEPS, house, (1, 1), ())
        house = with_call(STEPS, house, (1, 1, 0), A)
        self.assertEqual(causes(STEPS, house, (0,)), ((1,), (1, 1), (1, 1, 0)))
        self.assertEqual(found_cells(STEPS, house, (0,)), ())
        turn = (("f", 1, 2), (), ())
        house = with_call(TURN, (turn, ()), (1,), ("g", (), B))
        house = with_call(TURN, house, (2,), ("g", ("g", ()), ()))
        self.assertRaises(CanNot, causes, TURN, house, (0,))
        house = with_call(TURN, house, (2, 3), A)
        self.assertEqual(causes(TURN, house, (0,)), ((1,), (2,), (2, 3)))
        self.assertEqual(found_cells(TURN, house, (0,)), ((1, 1), (1, 2), (2, 1)))


class Sure(unittest.TestCase):

    def test_as_the_words_say(self):
        for book, house, plain in HOUSES + houses(9, 300, 7, 4, (THREE, RIGHT, TURN)):
            for cell in plain.own:
                end = plain.end(cell)
                if not plain.free(end):
                    self.assertRaises(CanNot, is_sure, book, house, cell)
                    continue
                self.assertIs(is_sure(book, house, cell), plain_bars(book, plain, (end,)))

    def test_called_in_each_end(self):
        rnd = random.Random(5)
        for book, house, plain in HOUSES[::2]:
            sure = [cell for cell in plain.ready() if is_sure(book, house, cell)]
            for _ in range(4):
                more = plain_of(book, house)
                for _ in range(25):
                    free = more.ready()
                    if not free:
                        self.assertTrue(all(cell in more.made for cell in sure))
                        break
                    reply = rnd.choice((A, B, END, END, 0, ("g", ())))
                    more.call(rnd.choice(free), reply)

    def test_all_books(self):
        self.assertEqual({book for book, _, _ in HOUSES}, set(BOOKS))


if __name__ == "__main__":
    unittest.main()
