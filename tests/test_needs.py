"""[9]: calls that cannot be spared."""

import itertools
import unittest

from notinvain.blots import blot_rows, is_whole, struck
from notinvain.books import is_book
from notinvain.errors import CanNot, NoPlace
from notinvain.forms import has_name
from notinvain.needs import call_of, first_needed, is_needed, is_why_needed, marked, need_run, needed_tasks
from notinvain.needs import run_without, spare_tasks, spares, why_needed
from notinvain.runs import is_ended, is_run, led, skeleton, tasks
from tests.small import A, B, END, FEW_SIGNS, MARK, as_lists, forms_of, is_above, more_things, odd_things
from tests.small import plain_calls, plain_ended, plain_lies, plain_marked, plain_needed, plain_put, plain_spots
from tests.small import plain_tasks, reached, runs_of, sides_of

RIGHT, DEEP = (("f", (), ("b",)),), (("f", ("g", ()), ("a",)),)
THREE = (("f", (), ("a",), ("b",)), ("f", ("a",), ("b",), ()), ("f", ("b",), (), ("a",)))
CHAIN = (("f", ("c",)), ("h", ()))
WIDE = ("f", (), (), ())
BOOKS = [sides for sides in sides_of(FEW_SIGNS, 4, 1) + sides_of(FEW_SIGNS, 3, 2) if is_book(sides)]
BOOKS += [RIGHT, DEEP, THREE, CHAIN]
FORMS = forms_of(FEW_SIGNS, 5)
FEW_FORMS = forms_of(FEW_SIGNS, 4)
PAIRS = [(book, form) for book in BOOKS for form in FORMS]
PAIRS += [(THREE, form) for form in forms_of((("a", 0), ("b", 0), ("f", 3)), 7)[::3]]
PAIRS += [(CHAIN, form) for form in forms_of((("c", 0), ("f", 1), ("h", 1)), 5)]
PAIRS += [(DEEP, form) for form in forms_of((("a", 0), ("f", 2), ("g", 1)), 6)[-110:]]
NO_PLACES = ((2,), (0, 0, 0), (-1,), (False,), (1, 0))


class Examples(unittest.TestCase):

    def test_needed(self):
        self.assertEqual(needed_tasks(RIGHT, ("f", (), ())), ((1,),))
        self.assertEqual(needed_tasks(THREE, WIDE), ())
        self.assertEqual(needed_tasks(DEEP, ("f", ("g", ()), ())), ((1,),))

    def test_marked(self):
        self.assertEqual(marked(("f", (), ()), ((0,),)), ("f", ("mark",), ()))
        self.assertIs(is_why_needed(RIGHT, ("f", (), ()), (1,), ()), True)
        self.assertIs(is_why_needed(DEEP, ("f", ("g", ()), ()), (1,), ()), True)

    def test_runs(self):
        form, run = ("f", (), ()), (((1,), ("b",)), ((), ("end",)))
        self.assertIs(spares(form, run, (0,)), True)
        self.assertIs(spares(form, run, (1,)), False)
        self.assertEqual(call_of(form, run, (1,)), 0)
        self.assertEqual(need_run(RIGHT, form, (("b",), ("end",), ("a",))), run)

    def test_chain(self):
        self.assertEqual(needed_tasks(CHAIN, ("f", ("h", ()))), ((0,),))
        self.assertEqual(why_needed(CHAIN, ("f", ("h", ())), (0,)), ())


class Marked(unittest.TestCase):

    def test_all_sets(self):
        for form in FEW_FORMS:
            places = sorted(plain_spots(form))
            for size in range(len(places) + 1):
                for lot in itertools.combinations(places, size):
                    self.assertEqual(marked(form, lot), plain_marked(form, lot))

    def test_the_one_above_counts(self):
        form = ("f", ("g", A), ())
        self.assertEqual(marked(form, ((0,), (0, 0))), ("f", MARK, ()))
        self.assertEqual(marked(form, ((), (0,), (0, 0), (1,))), MARK)
        self.assertEqual(marked(form, ()), form)

    def test_no_place(self):
        for lot in (((), (0, 1), (5,)), ((0, 1), (0,)), ((0,), (0, 1), (0, 2))):
            with self.assertRaises(NoPlace) as caught:
                marked(("f", ("g", A), ()), lot)
            self.assertEqual(caught.exception.place, (0, 1))


class Needed(unittest.TestCase):

    def test_as_the_words_say(self):
        for book, form in PAIRS:
            own, needed = plain_tasks(book, form), plain_needed(book, form)
            self.assertEqual(needed_tasks(book, form), needed)
            self.assertEqual(spare_tasks(book, form), tuple(place for place in own if place not in needed))
            self.assertEqual(first_needed(book, form), min(needed) if needed else None)
            for place in own:
                self.assertIs(is_needed(book, form, place), place in needed)

    def test_wide(self):
        self.assertEqual(spare_tasks(THREE, WIDE), ((0,), (1,), (2,)))
        self.assertIsNone(first_needed(THREE, WIDE))
        self.assertEqual(needed_tasks(THREE, ("f", (), (), B)), ((1,),))

    def test_edges(self):
        self.assertEqual(needed_tasks(THREE, ()), ((),))
        self.assertEqual(spare_tasks(THREE, ()), ())
        self.assertEqual(needed_tasks((), ("f", (), ())), ((0,), (1,)))
        for form in (A, ("f", A, A, A)):
            self.assertEqual(needed_tasks(THREE, form), ())
            self.assertEqual(spare_tasks(THREE, form), ())
            self.assertIsNone(first_needed(THREE, form))
        self.assertEqual(needed_tasks(RIGHT, ("f", (), B)), ((),))

    def test_errors_in_their_order(self):
        form = ("f", ("f", (), B), ())
        looks = (is_needed, run_without, why_needed, lambda book, own, place: is_why_needed(book, own, place, ()))
        for look in looks:
            for place in NO_PLACES:
                with self.assertRaises(NoPlace) as caught:
                    look(RIGHT, form, place)
                self.assertEqual(caught.exception.place, place)
            for place in ((), (0, 0), (0, 1)):
                self.assertRaises(CanNot, look, RIGHT, form, place)
            look(RIGHT, form, (0,))
            look(RIGHT, form, (1,))


class Sparing(unittest.TestCase):

    def test_run_without(self):
        for book, form in PAIRS:
            needed = plain_needed(book, form)
            for place in plain_tasks(book, form):
                run = run_without(book, form, place)
                if place in needed:
                    self.assertIsNone(run)
                    continue
                self.assertIs(is_run(book, form, run), True)
                self.assertIs(is_ended(book, led(book, form, run)), True)
                self.assertIs(spares(form, run, place), True)
                self.assertIsNone(call_of(form, run, place))

    def test_no_run_without_what_is_needed(self):
        answers = ((), A, ("g", A), ("g", ()), ("f", (), A), ("f", A, ()))
        for book in BOOKS:
            for form in FEW_FORMS[::2] + [("f", (), ("g", ())), ("f", ("f", (), A), ()), ("f", (), (), B)]:
                for place in plain_needed(book, form):
                    for other in reached(book, form, answers, 6, skip=place):
                        self.assertEqual(plain_spots(other)[place], plain_spots(form)[place])
                        self.assertIn(place, needed_tasks(book, other))
                        self.assertFalse(plain_ended(book, other))

    def test_spared_as_the_words_say(self):
        for book in BOOKS[::3]:
            for form in FEW_FORMS[:12]:
                for run in runs_of(book, form, (("f", (), A), A), 3):
                    for place in plain_spots(form):
                        bad, call, above = False, None, False
                        for number, (own, _) in enumerate(run):
                            if own[:len(place)] == place and not above:
                                bad = True
                            if own == place and call is None and not above:
                                call = number
                            above = above or is_above(own, place)
                        self.assertIs(spares(form, run, place), not bad)
                        self.assertEqual(call_of(form, run, place), call)

    def test_called_behind_one_above(self):
        form = ("f", (), B)
        run = (((), ("f", (), ())), ((0,), A))
        self.assertIs(spares(form, run, (0,)), True)
        self.assertIsNone(call_of(form, run, (0,)))
        self.assertIs(spares(form, run, ()), False)
        self.assertEqual(call_of(form, run, ()), 0)

    def test_called_below(self):
        form = ("g", ("f", (), B))
        run = (((0, 0), A),)
        self.assertIs(spares(form, run, (0,)), False)
        self.assertIsNone(call_of(form, run, (0,)))
        self.assertEqual(call_of(form, run, (0, 0)), 0)
        self.assertIs(spares(form, run, (0, 1)), True)

    def test_the_first_call(self):
        form = ("g", (), ())
        run = (((1,), A), ((0,), ("f", (), B)), ((0,), ("f", (), B)), ((0,), A))
        self.assertEqual(call_of(form, run, (0,)), 1)
        self.assertEqual(call_of(form, run, (1,)), 0)
        self.assertIsNone(call_of(form, run, ()))
        self.assertIsNone(call_of(form, (), (0,)))
        self.assertIs(spares(form, (), (0,)), True)

    def test_no_place(self):
        for look in (spares, call_of):
            with self.assertRaises(NoPlace) as caught:
                look(("g", (), ()), (), (2,))
            self.assertEqual(caught.exception.place, (2,))


class Why(unittest.TestCase):

    def test_all(self):
        for book, form in PAIRS:
            needed = plain_needed(book, form)
            for place in plain_tasks(book, form):
                strikes = why_needed(book, form, place)
                whole = plain_marked(form, (place,))
                if place not in needed:
                    self.assertIsNone(strikes)
                    self.assertIs(is_why_needed(book, form, place, ()), False)
                    self.assertIs(is_why_needed(book, form, place, blot_rows(book, whole)), False)
                    continue
                self.assertIs(is_whole(book, whole, strikes), True)
                self.assertIs(has_name(struck(book, whole, strikes), "mark"), True)
                self.assertIs(is_why_needed(book, form, place, strikes), True)
                self.assertIs(is_why_needed(book, form, place, list(strikes)), False)
                self.assertIs(is_why_needed(book, form, place, strikes + (((), 0),)), False)
                if strikes:
                    self.assertIs(is_why_needed(book, form, place, strikes[:-1]), False)

    def test_spoiled(self):
        form, place, strikes = ("k", ("f", ("h", ())), ("f", (), B), ()), (2,), (((1,), 0),)
        book = (("f", (), ("b",)), ("h", A))
        self.assertEqual(why_needed(book, form, place), (((0, 0), 1), ((1,), 0)))
        self.assertIs(is_why_needed(book, form, place, (((1,), 0), ((0, 0), 1))), True)
        for thing in (strikes, (((0, 0), 1),), (), as_lists(strikes), (((0, 0), True), ((1,), 0)),
                      (((0, 0), 1), ((1,), False)), (((0, 0), 1), ((1,), 0), ((), 0)), (((0, 0), 0), ((1,), 0)),
                      [((0, 0), 1), ((1,), 0)], (((0, 0), 1), [(1,), 0]), None, 0, True, "h"):
            self.assertIs(is_why_needed(book, form, place, thing), False, thing)
        for thing in odd_things() + more_things():
            self.assertIs(is_why_needed(book, form, place, thing), False, thing)

    def test_whole_but_without_the_mark(self):
        whole = (((), 0),)
        self.assertIs(is_whole(RIGHT, ("f", MARK, ()), whole), True)
        self.assertIs(is_why_needed(RIGHT, ("f", (), ()), (0,), whole), False)


class NeedRun(unittest.TestCase):

    def test_as_the_words_say(self):
        answers = (A, ("g", ()), ("f", (), A))
        for book in BOOKS[::3] + [THREE]:
            for form in FEW_FORMS + [WIDE, ("f", (), A, ()), ("f", (), A, B)]:
                for row in itertools.product(answers, repeat=3):
                    run, left, stuck = [], form, False
                    for answer in row:
                        needed = plain_needed(book, left)
                        if not needed:
                            stuck = bool(plain_calls(book, left))
                            break
                        run.append((needed[0], answer))
                        left = plain_put(left, needed[0], answer)
                    if stuck:
                        self.assertRaises(CanNot, need_run, book, form, row)
                    else:
                        self.assertEqual(need_run(book, form, row), tuple(run))

    def test_stuck(self):
        self.assertRaises(CanNot, need_run, THREE, WIDE, (A,))
        self.assertRaises(CanNot, need_run, THREE, (), (WIDE, A))
        self.assertEqual(need_run(THREE, WIDE, ()), ())
        self.assertEqual(need_run(THREE, (), (WIDE,)), (((), WIDE),))

    def test_ended(self):
        self.assertEqual(need_run(THREE, A, (B, B)), ())
        self.assertEqual(need_run((), (), (B, WIDE)), (((), B),))


class Laws(unittest.TestCase):

    def test_needed_in_the_skeleton(self):
        for book in BOOKS:
            for form in FORMS:
                self.assertEqual(needed_tasks(book, form), needed_tasks(book, skeleton(book, form)))

    def test_needed_whatever_stands_at_other_tasks(self):
        puts = ((), A, END, ("g", ()), ("f", (), A), ("f", ("g", ()), A), ("c",))
        for book in BOOKS:
            for form in FORMS[::2]:
                own = tasks(book, form)
                for place in needed_tasks(book, form):
                    others = [other for other in own if other != place][:3]
                    for row in itertools.product(puts, repeat=len(others)):
                        left = form
                        for other, put in zip(others, row):
                            left = plain_put(left, other, put)
                        self.assertIn(place, needed_tasks(book, left))

    def test_strikes_stand_in_each_end_of_the_marked(self):
        for book in BOOKS[::2]:
            for form in FEW_FORMS:
                for place in needed_tasks(book, form):
                    whole = marked(form, (place,))
                    left = struck(book, whole, why_needed(book, form, place))
                    for other in reached(book, whole, (A, ("g", A), END), 5):
                        self.assertTrue(plain_lies(left, other))


if __name__ == "__main__":
    unittest.main()
