"""[10]: lots of TASKS."""

import itertools
import math
import unittest

from notinvain.books import is_book
from notinvain.errors import CanNot, NoPlace, TooMany, Unfit
from notinvain.lots import bars, blockers, cheapest_barring, cheapest_enough, is_enough, is_spread, is_weighing
from notinvain.lots import least_barring, least_enough, run_within, share, spread, weighing, width
from notinvain.runs import is_ended, is_run, led
from tests.small import A, B, FEW_SIGNS, as_lists, forms_of, more_things, odd_things, plain_bars, plain_blot
from tests.small import plain_calls, plain_ended, plain_needed, plain_put, plain_spots, plain_tasks, sides_of
from tests.small import subsets

THREE = (("f", (), ("a",), ("b",)), ("f", ("a",), ("b",), ()), ("f", ("b",), (), ("a",)))
BOTH, RIGHT = (("f", ("a",), ("b",)),), (("f", (), ("b",)),)
CHAIN, DEEP = (("f", ("c",)), ("h", ())), (("f", ("g", ()), ("a",)),)
WIDE, NINE = ("f", (), (), ()), ("f", ("f", (), (), ()), ("f", (), (), ()), ("f", (), (), ()))
BOOKS = [sides for sides in sides_of(FEW_SIGNS, 4, 1) + sides_of(FEW_SIGNS, 3, 2) if is_book(sides)]
PAIRS = [(book, form) for book in BOOKS + [RIGHT, BOTH, DEEP] for form in forms_of(FEW_SIGNS, 4)]
PAIRS += [(book, form) for book in BOOKS[::4] for form in forms_of(FEW_SIGNS, 6)[::5]]
PAIRS += [(THREE, form) for form in forms_of((("a", 0), ("b", 0), ("f", 3)), 7)[::4]]
PAIRS += [(CHAIN, form) for form in forms_of((("c", 0), ("f", 1), ("h", 1), ("k", 2)), 5)[::2]]
WIDES = [WIDE, NINE, ("f", A, ("end",), WIDE), ("f", WIDE, (), B), ("f", (), WIDE, ()), ("g", WIDE), ("g", WIDE, ())]
PAIRS += [(THREE, form) for form in WIDES]
TENS = [("f", NINE[1], NINE[1], ("f", (), (), ("g", (), ()))), ("k", NINE, ()), ("k", WIDE, WIDE, ("f", (), WIDE, A))]
LISTED = (bars, is_enough, run_within)
BOUND = (least_barring, least_enough, width, share, weighing, spread)


def plain_table(book, form):
    """All TASKS, all barring LOTS, all enough ones."""
    places = plain_tasks(book, form)
    barring = [lot for lot in subsets(places) if plain_bars(book, form, lot)]
    enough = [lot for lot in subsets(places) if tuple(own for own in places if own not in lot) not in barring]
    return places, barring, enough


TABLES = [(book, form) + plain_table(book, form) for book, form in PAIRS]


def plain_least(lots):
    """The least of lots."""
    return tuple(sorted(lot for lot in lots if not any(set(own) < set(lot) for own in lots)))


def plain_hits(lots, places):
    return [own for own in subsets(places) if all(set(own) & set(lot) for lot in lots)]


class Examples(unittest.TestCase):

    def test_bars(self):
        self.assertEqual((bars(THREE, WIDE, ((0,),)), bars(THREE, WIDE, ((0,), (2,))),
                          is_enough(THREE, WIDE, ((0,), (2,))), width(THREE, WIDE)), (False, True, True, 2))

    def test_share(self):
        self.assertEqual(least_barring(THREE, WIDE), (((0,), (1,)), ((0,), (2,)), ((1,), (2,))))
        self.assertEqual(share(THREE, WIDE), (2, 3))
        self.assertIs(is_weighing(THREE, WIDE, (1, 1, 1)), True)
        self.assertEqual(cheapest_barring(THREE, WIDE, (5, 1, 2)), ((1,), (2,)))
        own = ((((0,), (1,)), 1), (((0,), (2,)), 1), (((1,), (2,)), 1))
        self.assertIs(is_spread(THREE, WIDE, own), True)

    def test_run_within(self):
        self.assertIsNone(run_within(THREE, WIDE, ((0,),)))
        self.assertIs(is_run(THREE, WIDE, run_within(THREE, WIDE, ((0,), (1,)))), True)

    def test_both(self):
        self.assertEqual(least_barring(BOTH, ("f", (), ())), (((0,),), ((1,),)))
        self.assertEqual(least_enough(BOTH, ("f", (), ())), (((0,), (1,)),))
        self.assertEqual(share(BOTH, ("f", (), ())), (1, 1))
        self.assertEqual(least_barring(BOTH, ("end",)), ())
        self.assertEqual(least_enough(BOTH, ("end",)), ((),))
        self.assertIsNone(share(BOTH, ("end",)))
        self.assertEqual(blockers((((0,),), ((0,), (1,)))), (((0,),),))
        self.assertRaises(CanNot, bars, BOTH, ("f", (), ()), ((),))


class Lots(unittest.TestCase):

    def test_as_the_words_say(self):
        for book, form, places, barring, enough in TABLES:
            for lot in subsets(places) if len(places) < 6 else subsets(places)[::7]:
                self.assertIs(bars(book, form, lot), lot in barring)
                self.assertIs(is_enough(book, form, lot), lot in enough)
            self.assertEqual(least_barring(book, form), plain_least(barring))
            self.assertEqual(least_enough(book, form), plain_least(enough))
            self.assertEqual(width(book, form), min((len(lot) for lot in barring), default=None))

    def test_cheapest(self):
        for book, form, places, barring, enough in TABLES[::3]:
            for turn in range(3):
                prices = tuple((5 * at * at + turn) % (2 + turn) for at in range(len(places)))
                price_of = dict(zip(places, prices))
                for deed, lots in ((cheapest_barring, barring), (cheapest_enough, enough)):
                    rows = [(sum(price_of[place] for place in lot), lot) for lot in plain_least(lots)]
                    self.assertEqual(deed(book, form, prices), min(rows)[1] if rows else None)

    def test_cheapest_is_least_and_the_first(self):
        self.assertEqual(cheapest_enough(THREE, WIDE, (0, 0, 0)), ((0,), (1,)))
        self.assertEqual(cheapest_barring(BOTH, ("f", (), ()), (7, 7)), ((0,),))
        self.assertEqual(cheapest_barring(BOTH, ("f", (), ()), (8, 7)), ((1,),))
        self.assertEqual(cheapest_enough(BOTH, ("f", (), ()), (10 ** 6, 10 ** 6)), ((0,), (1,)))

    def test_ended(self):
        for form in (A, ("f", A, A, A), ("end",)):
            told = [deed(THREE, form) for deed in BOUND]
            self.assertEqual(told, [(), ((),), None, None, None, None])
            self.assertIsNone(cheapest_barring(THREE, form, ()))
            self.assertEqual(cheapest_enough(THREE, form, ()), ())
            self.assertEqual((bars(THREE, form, ()), is_enough(THREE, form, ()), run_within(THREE, form, ())),
                             (False, True, ()))
            for thing in ((), (1,), (0,), (((), 1),), ()):
                self.assertIs(is_weighing(THREE, form, thing), False)
                self.assertIs(is_spread(THREE, form, thing), False)

    def test_open_and_due(self):
        for form in ((), ("f", A, B, ("g",))):
            self.assertEqual([deed(THREE, form) for deed in BOUND],
                             [(((),),), (((),),), 1, (1, 1), (1,), ((((),), 1),)])
            self.assertEqual((bars(THREE, form, ()), is_enough(THREE, form, ()), run_within(THREE, form, ())),
                             (False, False, None))
        self.assertEqual(least_barring((), ("f", (), ())), (((0,),), ((1,),)))

    def test_a_task_that_is_due(self):
        form = ("f", (), ("f", A, B, ()), ())
        self.assertEqual(least_enough(THREE, form), least_enough(THREE, WIDE))
        self.assertIs(bars(THREE, form, ((1,), (2,))), True)
        run = run_within(THREE, form, ((1,), (2,)))
        self.assertIs(is_ended(THREE, led(THREE, form, run)), True)

    def test_plain_laws(self):
        for book, form, places, barring, enough in TABLES:
            least = (least_barring(book, form), least_enough(book, form))
            self.assertEqual((blockers(least[0]), blockers(least[1])), (least[1], least[0]))
            for lot in subsets(places) if len(places) < 6 else subsets(places)[::11]:
                self.assertEqual(lot in enough, all(set(lot) & set(own) for own in barring))
                self.assertEqual(lot in barring, all(set(lot) & set(own) for own in enough))
            if places:
                self.assertIn(tuple(places), barring)
                self.assertNotIn((), enough)
            if plain_blot(book, form) == ():
                self.assertTrue(all(set(one) & set(two) for one in least[1] for two in least[1]))
                self.assertTrue(all(lot in barring for lot in enough))
                self.assertTrue(plain_needed(book, form) or len(places) >= 3)


def run_around(book, form, lot, answers, most):
    """Whether a RUN without a CALL at a PLACE of lot, with these answers, leads to an END."""
    seen, waiting = {form}, [form]
    while waiting:
        left = waiting.pop()
        if plain_ended(book, left):
            return True
        for place in plain_calls(book, left):
            for answer in answers if place not in lot else ():
                out = plain_put(left, place, answer)
                if out not in seen and len(plain_spots(out)) <= most:
                    seen.add(out)
                    waiting.append(out)
    return False


class Runs(unittest.TestCase):

    def test_run_within(self):
        for book, form, places, barring, enough in TABLES:
            for lot in subsets(places) if len(places) < 6 else subsets(places)[::7]:
                run = run_within(book, form, lot)
                if lot not in enough:
                    self.assertIsNone(run)
                    continue
                self.assertIs(is_run(book, form, run), True)
                self.assertIs(is_ended(book, led(book, form, run)), True)
                self.assertFalse([place for place, _ in run if place in places and place not in lot])

    def test_some_run_exactly_if_the_lot_does_not_bar(self):
        answers = ((), A, B, ("end",), ("g", A), ("g", ()))
        for book, form, places, barring, enough in TABLES[:-len(WIDES)]:
            if len(plain_spots(form)) <= 4 and book != CHAIN:
                for lot in subsets(places):
                    self.assertIs(run_around(book, form, lot, answers, 6), lot not in barring, (book, form, lot))
        for form in (WIDE, ("f", (), (), B), ("f", A, (), ())):
            for lot in subsets(plain_tasks(THREE, form)):
                self.assertIs(run_around(THREE, form, lot, (A, B, ()), 6), not plain_bars(THREE, form, lot))


class Shares(unittest.TestCase):

    def test_share(self):
        for book, form, places, barring, enough in TABLES:
            if not places:
                continue
            (top, bottom), weights, rows = share(book, form), weighing(book, form), spread(book, form)
            self.assertEqual(math.gcd(top, bottom), 1)
            self.assertTrue(1 <= top <= bottom)
            self.assertIsInstance(weights, tuple)
            self.assertTrue(len(weights) == len(places) and min(weights) >= 0 and any(weights))
            weight_of = dict(zip(places, weights))
            for lot in enough:
                self.assertGreaterEqual(sum(weight_of[place] for place in lot) * bottom, top * sum(weights))
            self.assertEqual(list(rows), sorted(rows))
            self.assertEqual(len(rows), len({lot for lot, _ in rows}))
            self.assertTrue(all(lot in enough and number >= 1 for lot, number in rows))
            whole = sum(number for _, number in rows)
            for place in places:
                laid = sum(number for lot, number in rows if place in lot)
                self.assertLessEqual(laid * bottom, top * whole)
            self.assertIs(is_weighing(book, form, weights), True)
            self.assertIs(is_spread(book, form, rows), True)
            self.assertEqual((top, bottom) == (1, 1), bool(plain_needed(book, form)))
            self.assertGreaterEqual(top * width(book, form), bottom)
            if not plain_needed(book, form):
                self.assertLessEqual(top * len(places), bottom * (len(places) - 1))

    def test_no_weighing_gives_more(self):
        for book, form, places, barring, enough in TABLES[::2]:
            if 0 < len(places) < 5:
                top, bottom = share(book, form)
                for row in itertools.product(range(3), repeat=len(places)):
                    weight_of, whole = dict(zip(places, row)), sum(row)
                    least = min(sum(weight_of[place] for place in lot) for lot in enough)
                    if whole:
                        self.assertLessEqual(least * bottom, top * whole)
                        self.assertIs(is_weighing(book, form, row), least * bottom == top * whole)

    def test_all_small_spreads(self):
        for book, form, places, barring, enough in TABLES[::5]:
            if 0 < len(places) < 4:
                top, bottom = share(book, form)
                for row in itertools.product(range(3), repeat=len(enough)):
                    own = tuple(sorted((lot, number) for lot, number in zip(enough, row) if number))
                    most = max(sum(number for lot, number in own if place in lot) for place in places)
                    fits = bool(own) and most * bottom <= top * sum(row)
                    self.assertIs(is_spread(book, form, own), fits)

    def test_put_in_one_another(self):
        self.assertEqual((share(THREE, NINE), width(THREE, NINE)), ((4, 9), 4))
        forms = [WIDE, ("f", (), A, ()), ("f", (), (), B), ("f", (), A, ("g", ())), ("f", (), ("f", (), A, ()), ())]
        books = [(THREE, forms), (CHAIN, [("f", ("h", ()))]), (CHAIN, [("f", ())]), (CHAIN, [("h", ())]),
                 (RIGHT, [("f", ("c",), ()), ("f", (), ())]), (BOTH, [("f", (), ()), ("f", A, ()), ("f", (), B)])]
        for book, own in books:
            for one in own:
                for two in own:
                    form = one
                    if plain_blot(book, one) or plain_blot(book, two) or plain_tasks(book, one) == [()]:
                        continue
                    for place in plain_tasks(book, one):
                        form = plain_put(form, place, two)
                    if len(plain_tasks(book, form)) > 10 or plain_tasks(book, two) == [()]:
                        continue
                    (top, bottom), (more, less), (high, low) = share(book, one), share(book, two), share(book, form)
                    self.assertLessEqual(high * bottom * less, low * top * more)
                    self.assertGreaterEqual(width(book, form), width(book, one) * width(book, two))
                    if book != CHAIN:
                        self.assertEqual(high * bottom * less, low * top * more)
                        self.assertEqual(width(book, form), width(book, one) * width(book, two))


class Spoiled(unittest.TestCase):

    def test_weighings(self):
        self.assertIs(is_weighing(THREE, WIDE, (4, 4, 4)), True)
        self.assertIs(is_weighing(THREE, WIDE, (10 ** 40,) * 3), True)
        for thing in ((1, 1), (1, 1, 1, 1), (1, 1, 2), (0, 1, 1), (0, 0, 0), (-1, -1, -1), [1, 1, 1], (True, 1, 1),
                      (True, True, True), (1, 1, "1"), (1, 1, None), ((1,), (1,), (1,)), (1, (1, 1)), 1, None, "111"):
            self.assertIs(is_weighing(THREE, WIDE, thing), False, thing)
        self.assertIs(is_weighing(BOTH, ("f", (), ()), (0, 3)), True)
        self.assertIs(is_weighing(BOTH, ("f", (), ()), (-1, 3)), False)
        for thing in odd_things() + more_things():
            self.assertIs(is_weighing(THREE, WIDE, thing), False, thing)

    def test_spreads(self):
        one, two, six = (((0,), (1,)), 1), (((0,), (2,)), 1), (((1,), (2,)), 1)
        self.assertIs(is_spread(THREE, WIDE, (one, two, six)), True)
        self.assertIs(is_spread(THREE, WIDE, tuple((lot, 10 ** 30) for lot, _ in (one, two, six))), True)
        self.assertIs(is_spread(THREE, ("f", (), (), B), ((((1,),), 2),)), True)
        things = [(one, six, two), (one, two), (one, two, six, six), (one, two, two, six), [one, two, six],
                  (one, two, list(six)), (one, two, (six[0], 2)), (one, two, (six[0], True)), (one, two, (six[0], 0)),
                  (one, two, (six[0], -1)), (one, two, ([(1,), (2,)], 1)), (one, two, (((1,), [2]), 1)),
                  (one, two, (((2,), (1,)), 1)), (one, two, (((1,), (1,), (2,)), 1)), (one, two, (((1,), (3,)), 1)),
                  (one, two, (((True,), (2,)), 1)), (one, two, (((1,), (2,)),)), (one, two, (((1,), (2,)), 1, 1)),
                  ((((0,),), 1), one, two, six), (((), 1), one, two, six), (), None, 1, (1,), ((1, 1),),
                  ((((0,), (1,), (2,)), 1),), ((((False,), (1,)), 1), two, six), (one, two, (six[0], "1"))]
        three = (((0,), (1,), (2,)), 0)
        things += [(one, three, two, six), (one, (three[0], True), two, six), (one, (three[0], -1), two, six)]
        for thing in things:
            self.assertIs(is_spread(THREE, WIDE, thing), False, thing)
        self.assertIs(is_spread(THREE, ("f", (), (), B), ((((0,), (1,)), -1), (((1,),), 3))), False)
        self.assertIs(is_spread(THREE, ("f", (), (), B), ((((0,), (1,)), 0), (((1,),), 3))), False)
        for thing in odd_things() + more_things():
            self.assertIs(is_spread(THREE, WIDE, thing), False, thing)
            self.assertIs(is_spread(THREE, WIDE, (thing,)), False, thing)
            self.assertIs(is_spread(THREE, WIDE, ((thing, 1),)), False, thing)
            self.assertIs(is_spread(THREE, WIDE, (((thing,), 1),)), False, thing)

    def test_a_spread_of_more_than_least_lots(self):
        form = ("f", (), B)
        self.assertEqual(least_enough(BOTH, form), (((0,),),))
        self.assertIs(is_spread(BOTH, form, ((((0,),), 3),)), True)
        own = ("k", (), ())
        self.assertEqual(share(THREE, own), (1, 1))
        self.assertIs(is_spread(THREE, ("f", (), (), B), ((((0,), (1,)), 1), (((1,),), 1))), True)


class Errors(unittest.TestCase):

    def test_no_place_then_cannot(self):
        form = ("f", ("f", A, B, ()), (), ("g", ()))
        for deed in LISTED:
            for lot, place in ((((0,), (3,)), (3,)), (((), (9,), (8,)), (9,)), (((0, 2), (2, 0, 0)), (2, 0, 0))):
                with self.assertRaises(NoPlace) as caught:
                    deed(THREE, form, lot)
                self.assertEqual(caught.exception.place, place)
                with self.assertRaises(NoPlace) as caught:
                    deed(THREE, as_lists(form), as_lists(lot))
                self.assertEqual(caught.exception.place, place)
            for lot in (((),), ((0,), (2,)), ((0, 0),), ((0, 2),), ((0,), (0, 1))):
                self.assertRaises(CanNot, deed, THREE, form, lot)
            deed(THREE, form, ((0,), (1,), (2, 0)))
            deed(THREE, form, ())

    def test_unfit(self):
        for deed in (cheapest_barring, cheapest_enough):
            for prices in ((), (1,), (1, 1), (1, 1, 1, 1)):
                self.assertRaises(Unfit, deed, THREE, WIDE, prices)
            self.assertRaises(Unfit, deed, THREE, A, (1,))
            self.assertRaises(TooMany, deed, THREE, ("k", TENS[0], ()), (1,))

    def test_ten_tasks(self):
        for form in TENS:
            places = plain_tasks(THREE, form)
            self.assertEqual(len(places), 10)
            least = (least_barring(THREE, form), least_enough(THREE, form))
            self.assertEqual((blockers(least[0]), blockers(least[1])), (least[1], least[0]))
            for lot in least[0]:
                self.assertIs(bars(THREE, form, lot), True)
                self.assertFalse(any(bars(THREE, form, lot[:at] + lot[at + 1:]) for at in range(len(lot))))
            for lot in least[1]:
                self.assertIs(is_enough(THREE, form, lot), True)
                self.assertFalse(any(is_enough(THREE, form, lot[:at] + lot[at + 1:]) for at in range(len(lot))))
            (top, bottom), weights, rows = share(THREE, form), weighing(THREE, form), spread(THREE, form)
            self.assertIs(is_weighing(THREE, form, weights), True)
            self.assertIs(is_spread(THREE, form, rows), True)
            weight_of, whole = dict(zip(places, weights)), sum(number for _, number in rows)
            self.assertTrue(all(sum(weight_of[own] for own in lot) * bottom >= top * sum(weights) for lot in least[1]))
            for place in places:
                self.assertLessEqual(sum(number for lot, number in rows if place in lot) * bottom, top * whole)
            self.assertIn(cheapest_barring(THREE, form, range(10)), least[0])

    def test_eleven_tasks(self):
        for form in TENS:
            form = ("k", form, ("f", A, ("f", A, B, ()), ("g", A)))
            self.assertEqual(len(plain_tasks(THREE, form)), 11)
            for deed in BOUND:
                self.assertRaises(TooMany, deed, THREE, form)
            for deed in (is_weighing, is_spread, cheapest_barring, cheapest_enough):
                self.assertRaises(TooMany, deed, THREE, form, ())
                self.assertRaises(TooMany, deed, THREE, form, (1,) * 11)
            lot = tuple(plain_tasks(THREE, form))
            self.assertEqual((bars(THREE, form, lot), is_enough(THREE, form, lot)), (True, True))
            self.assertIs(is_run(THREE, form, run_within(THREE, form, lot)), True)
            self.assertRaises(NoPlace, bars, THREE, form, ((7,),))


class Blockers(unittest.TestCase):

    def test_all(self):
        places = ((), (0, 1), (2,), (10 ** 6,))
        sets = subsets(places)
        for many in range(4):
            for lots in itertools.combinations(sets, many):
                self.assertEqual(blockers(lots), plain_least(plain_hits(lots, places)))
                self.assertEqual(blockers(lots[::-1]), blockers(lots))

    def test_edges(self):
        self.assertEqual(blockers(()), ((),))
        self.assertEqual(blockers(((),)), ())
        self.assertEqual(blockers((((0,),), ())), ())
        self.assertEqual(blockers((((0,),), ((0,),))), (((0,),),))

    def test_bound(self):
        ten = tuple((number,) for number in range(10))
        self.assertEqual(blockers((ten,)), tuple((place,) for place in ten))
        self.assertEqual(blockers(tuple((place,) for place in ten)), (ten,))
        pairs = tuple(itertools.combinations(ten, 2))
        self.assertEqual(blockers(pairs), tuple(itertools.combinations(ten, 9)))
        self.assertEqual(len(blockers(tuple(itertools.combinations(ten, 5)))), 210)
        self.assertRaises(TooMany, blockers, (ten, ((10,),)))
        self.assertRaises(TooMany, blockers, (ten + ((10,),), ()))
        self.assertEqual(blockers((ten, ((9,),), ())), ())


if __name__ == "__main__":
    unittest.main()
