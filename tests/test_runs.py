"""[6]: due PLACES and RUNS."""

import itertools
import unittest

from notinvain.books import is_book, under
from notinvain.errors import CanNot, NoNumber, NoPlace
from notinvain.runs import answered, can_call, called, due_places, exchanged, forms_along, is_ended, is_run
from notinvain.runs import is_standing, led, outermost_due, side_at, skeleton, tasks, unwashed, washed
from tests.small import A, B, END, FEW_SIGNS, as_lists, forms_of, is_above, more_things, odd_things, plain_blot
from tests.small import plain_calls, plain_due, plain_ended, plain_lies, plain_put, plain_spots, plain_tasks
from tests.small import runs_of, sides_of, tower

BOOK = (("f", (), ("a",)), ("h", ("b",)))
FORM = ("f", ("g", ("h", ("b",)), ()), ("a",))
PART = FORM[1]
RUN = (((0, 1), ("h", ())), ((0, 1, 0), ("b",)), ((0, 0), ()), ((0, 1), ("a",)), ((), ("g", (), ())), ((1,), ("end",)))
FORMS = forms_of(FEW_SIGNS, 5)
SOME = sides_of(FEW_SIGNS, 3, 2)
FEW_FORMS = forms_of(FEW_SIGNS, 3)
ANSWERS = ((), A, ("f", (), A), ("g", A))


def are_apart(place, other):
    return place != other and not is_above(place, other) and not is_above(other, place)


def plain_led(form, run):
    """form and what each CALL of run leaves."""
    left = [form]
    for place, answer in run:
        left.append(plain_put(left[-1], place, answer))
    return left


def plain_washed(sides, form, run):
    """The CALLS washed away, from their words."""
    left = plain_led(form, run)
    out = []
    for k, (place, _) in enumerate(run):
        for j in range(k + 1, len(run)):
            own = run[j][0]
            for i in range(k + 1):
                if (place[:len(own)] == own and own in plain_calls(sides, left[i])
                        and not any(is_above(run[m][0], own) for m in range(i, j))):
                    out.append(k)
    return tuple(sorted(set(out)))


class Examples(unittest.TestCase):

    def test_due(self):
        self.assertEqual(due_places(BOOK, FORM), ((), (0, 0)))
        self.assertEqual(outermost_due(BOOK, FORM), ((),))
        self.assertEqual(skeleton(BOOK, FORM), ())
        self.assertEqual(tasks(BOOK, FORM), ((),))

    def test_at_a_place(self):
        self.assertEqual(side_at(BOOK, FORM, (0, 0)), ("h", ("b",)))
        self.assertIsNone(side_at(BOOK, FORM, (0,)))
        self.assertIs(can_call(BOOK, FORM, (0, 1)), True)
        self.assertIs(can_call(BOOK, FORM, (0,)), False)

    def test_of_a_part(self):
        self.assertEqual(skeleton(BOOK, PART), ("g", (), ()))
        self.assertEqual(tasks(BOOK, PART), ((0,), (1,)))
        self.assertEqual(answered(BOOK, PART, (("b",), ("h", ("b",)))), ("g", ("b",), ("h", ("b",))))

    def test_run(self):
        self.assertEqual(led(BOOK, FORM, RUN), ("g", (), ("end",)))
        self.assertEqual(forms_along(BOOK, FORM, RUN)[2], ("f", ("g", ("h", ("b",)), ("h", ("b",))), ("a",)))
        self.assertEqual(washed(BOOK, FORM, RUN), (0, 1, 2, 3))
        self.assertEqual(unwashed(BOOK, FORM, RUN), (((), ("g", (), ())), ((1,), ("end",))))

    def test_washed_and_exchanged(self):
        run = (((1,), ("h", ())), ((1, 0), ("b",)), ((0,), ()), ((1,), ("a",)))
        self.assertEqual(washed(BOOK, PART, run), (0, 1))
        self.assertEqual(exchanged(BOOK, PART, (((0,), ("b",)), ((1,), ())), 0), (((1,), ()), ((0,), ("b",))))

    def test_no_call(self):
        self.assertRaises(CanNot, called, BOOK, FORM, (1,), ("b",))


class Due(unittest.TestCase):

    def test_as_the_words_say(self):
        for sides in SOME:
            for form in FORMS:
                due = plain_due(sides, form)
                outer = [place for place in due if not any(is_above(other, place) for other in due)]
                whole = form
                for place in outer:
                    whole = plain_put(whole, place, ())
                self.assertEqual(due_places(sides, form), tuple(due))
                self.assertEqual(outermost_due(sides, form), tuple(outer))
                self.assertEqual(skeleton(sides, form), whole)
                self.assertEqual(tasks(sides, form), tuple(plain_tasks(sides, form)))
                self.assertIs(is_standing(sides, form), not due)
                self.assertIs(is_ended(sides, form), plain_ended(sides, form))

    def test_no_sides(self):
        form = ("f", A, ())
        self.assertEqual(due_places((), form), ())
        self.assertEqual(skeleton((), form), form)
        self.assertEqual(tasks((), form), ((1,),))
        self.assertIs(is_standing((), form), True)
        self.assertIs(is_ended((), form), False)
        self.assertIs(is_ended((), A), True)

    def test_open_and_ended(self):
        self.assertEqual(tasks(BOOK, ()), ((),))
        self.assertEqual(skeleton(BOOK, ()), ())
        self.assertIs(is_standing(BOOK, ()), True)
        self.assertIs(is_ended(BOOK, ()), False)
        self.assertEqual(tasks(BOOK, ("f", A, B)), ())
        self.assertIs(is_ended(BOOK, ("f", A, B)), True)
        self.assertIs(is_ended(BOOK, ("f", A, A)), False)

    def test_the_least_that_fits(self):
        sides = (("f", (), ()), ("f", (), A), ("f", A, ()))
        self.assertEqual(side_at(sides, ("g", ("f", A, A)), (0,)), ("f", (), ()))
        self.assertEqual(side_at(sides[1:], ("f", A, A), ()), ("f", (), A))
        self.assertIsNone(side_at(sides, (), ()))

    def test_no_place_first(self):
        for place in ((2,), (0, 2), (0, 1, 0), (-1,), (True,), (1, 0)):
            for call in (lambda: side_at(BOOK, FORM, place), lambda: can_call(BOOK, FORM, place),
                         lambda: called(BOOK, FORM, place, A)):
                with self.assertRaises(NoPlace) as caught:
                    call()
                self.assertEqual(caught.exception.place, place)


class Calls(unittest.TestCase):

    def test_where(self):
        for sides in SOME:
            for form in FORMS[:24]:
                places = plain_calls(sides, form)
                for place in plain_spots(form):
                    self.assertIs(can_call(sides, form, place), place in places)
                    if place in places:
                        self.assertEqual(called(sides, form, place, A), plain_put(form, place, A))
                    else:
                        self.assertRaises(CanNot, called, sides, form, place, A)

    def test_is_run(self):
        for sides in SOME[:20]:
            for form in FEW_FORMS:
                for run in runs_of(sides, form, (A, ("g", ())), 2):
                    self.assertIs(is_run(sides, form, run), True)
                    self.assertEqual(forms_along(sides, form, run), tuple(plain_led(form, run)))
                    self.assertEqual(led(sides, form, run), plain_led(form, run)[-1])

    def test_all_pairs_of_calls(self):
        places = ((), (0,), (1,), (0, 0), (2,))
        calls = list(itertools.product(places, ((), ("f", A, A))))
        for form in FORMS[:24]:
            for run in itertools.product(calls, repeat=2):
                good, left = True, form
                for place, answer in run:
                    good = good and place in plain_calls(BOOK, left)
                    left = plain_put(left, place, answer) if good else left
                self.assertIs(is_run(BOOK, form, run), good)
                if not good:
                    self.assertRaises(CanNot, led, BOOK, form, run)
                    self.assertRaises(CanNot, forms_along, BOOK, form, run)

    def test_empty_run(self):
        self.assertIs(is_run(BOOK, FORM, ()), True)
        self.assertIs(is_run(BOOK, A, ()), True)
        self.assertEqual(led(BOOK, FORM, ()), FORM)
        self.assertEqual(forms_along((), A, ()), (A,))
        self.assertEqual(washed(BOOK, FORM, ()), ())
        self.assertEqual(unwashed(BOOK, FORM, ()), ())

    def test_spoiled_runs(self):
        form = ("g", (), ())
        run = (((0,), A), ((1,), ("h", B)), ((1,), END))
        self.assertIs(is_run(BOOK, form, run), True)
        spoiled = (list(run), as_lists(run), run[::-1], run[:2] + run[:1], run + (((1,), A),), (((0,), A, 0),),
                   ([(0,), A],), (([0], A),), (((0,), ["a"]),), (((False,), A),), (((0,), ("A",)),), (((0,), None),),
                   (((0,), "a"),), (((0,),),), (((0,), ("f", (), (), (), ())),), ((0, A),), (((), A),), (((2,), A),),
                   (((-1,), A),), (((0, 0), A),), (None,), ((),), (A,), (((0,), 1),), (((0,), True),), ((None, A),))
        for thing in spoiled:
            self.assertIs(is_run(BOOK, form, thing), False, thing)
        for thing in odd_things() + more_things():
            self.assertIs(is_run(BOOK, A, thing), False, thing)

    def test_any_answer(self):
        self.assertIs(is_run(BOOK, ("g", ()), (((0,), tower(17)),)), True)
        self.assertIs(is_run((), (), (((), ("mark",)),)), True)

    def test_long_runs(self):
        run = tuple(((0,) * k, ("g", ())) for k in range(100))
        self.assertIs(is_run((), (), run), True)
        self.assertEqual(washed((), (), run), ())
        self.assertIs(is_run((), (), run + run[:1]), False)

    def test_run_that_is_none(self):
        for run in ((((1,), B),), (((0, 1), B), ((0, 1), B)), (((5,), B),), (A,), None, 0):
            for deed in (led, forms_along, washed, unwashed):
                self.assertRaises(CanNot, deed, BOOK, FORM, run)


class Answered(unittest.TestCase):

    def test_counts(self):
        for answers in ((), (A,), (A, A, A)):
            self.assertRaises(CanNot, answered, BOOK, PART, answers)
        self.assertRaises(CanNot, answered, BOOK, A, (A,))
        self.assertEqual(answered(BOOK, A, ()), A)
        self.assertEqual(answered(BOOK, FORM, (B,)), B)
        self.assertEqual(answered(BOOK, (), (FORM,)), FORM)

    def test_calls_at_all_tasks_in_any_order(self):
        for sides in SOME:
            for form in FORMS[:24]:
                places = tasks(sides, form)
                answers = [("h", (name,)) for name in "abcde"][:len(places)]
                whole = answered(sides, form, tuple(answers))
                for run in itertools.permutations(list(zip(places, answers))):
                    self.assertEqual(led(sides, form, run), whole)


class Exchanged(unittest.TestCase):

    def test_errors_in_their_order(self):
        run = (((0,), B), ((1,), ()))
        for number in (-1, 1, 2, -2, 10 ** 6):
            for own in (run, (((5,), B), ((1,), ()))):
                with self.assertRaises(NoNumber) as caught:
                    exchanged(BOOK, PART, own, number)
                self.assertEqual(caught.exception.number, number)
        self.assertRaises(NoNumber, exchanged, BOOK, PART, (), 0)
        self.assertRaises(CanNot, exchanged, BOOK, PART, (((5,), B), ((1,), ())), 0)
        self.assertRaises(CanNot, exchanged, BOOK, PART, (((0,), B), ((1,), ()), ((), A)), 0)
        self.assertRaises(CanNot, exchanged, BOOK, PART, (((1,), ()), ((1,), A)), 0)
        self.assertRaises(CanNot, exchanged, BOOK, PART, (((1,), ("g", ())), ((1, 0), A)), 0)
        self.assertRaises(CanNot, exchanged, BOOK, FORM, (((0, 0), B), ((), A)), 0)

    def test_all_small_runs(self):
        for sides in SOME[:20]:
            for form in FEW_FORMS:
                for run in runs_of(sides, form, (A, ("f", (), A)), 3):
                    for number in range(len(run) - 1):
                        if not are_apart(run[number][0], run[number + 1][0]):
                            self.assertRaises(CanNot, exchanged, sides, form, run, number)
                            continue
                        own = exchanged(sides, form, run, number)
                        turned = list(run)
                        turned[number], turned[number + 1] = run[number + 1], run[number]
                        self.assertEqual(own, tuple(turned))
                        self.assertEqual(led(sides, form, own), led(sides, form, run))


class Washed(unittest.TestCase):

    def test_as_the_words_say(self):
        for sides in SOME:
            for form in FEW_FORMS[-6:]:
                for run in runs_of(sides, form, (("f", (), A), ("g", ())), 3):
                    gone = plain_washed(sides, form, run)
                    self.assertEqual(washed(sides, form, run), gone)
                    rest = tuple(call for k, call in enumerate(run) if k not in gone)
                    self.assertEqual(unwashed(sides, form, run), rest)

    def test_leads_to_the_same(self):
        for sides in SOME:
            if not is_book(sides):
                continue
            for form in FEW_FORMS:
                for run in runs_of(sides, form, ANSWERS, 2) + runs_of(sides, form, (("f", (), A), A), 3):
                    rest = unwashed(sides, form, run)
                    self.assertIs(is_run(sides, form, rest), True)
                    self.assertEqual(led(sides, form, rest), led(sides, form, run))

    def test_a_call_above_keeps(self):
        # Ahead of the call at () nothing can be called at (0,): it is made anew by that call.
        run = (((), ("g", ())), ((0,), A))
        self.assertEqual(washed((), (), run), ())
        run = (((0,), ("f", (), A)), ((0, 0), B), ((0,), B))
        self.assertEqual(washed(BOOK, ("g", ()), run), (0, 1))
        run = (((0,), ("f", (), A)), ((0,), ("f", B, ("g", ()))), ((0, 1, 0), A))
        self.assertEqual(washed(BOOK, ("g", ()), run), (0,))

    def test_a_call_above_between(self):
        # (0,) is OPEN at first, but what is called there last was put there by the call at ().
        run = (((), ("g", ("h", ()))), ((0, 0), B), ((0,), A))
        self.assertEqual(washed(BOOK, ("f", (), A), run), ())
        run = (((0,), B), ((1,), A), ((), ("f", (), ())), ((0,), B))
        self.assertEqual(washed(BOOK, ("f", (), ()), run), ())
        self.assertEqual(washed(BOOK, ("f", (), A), run[:1] + run[2:]), (0,))


class Laws(unittest.TestCase):

    def test_skeleton(self):
        for sides in SOME:
            for form in FORMS:
                whole = skeleton(sides, form)
                self.assertIs(is_standing(sides, whole), True)
                self.assertTrue(plain_lies(whole, form))
                self.assertEqual(skeleton(sides, whole), whole)
                self.assertEqual(whole == form, is_standing(sides, form))

    def test_nothing_changes_apart(self):
        for sides in SOME:
            for form in FORMS[:24]:
                for place in plain_calls(sides, form):
                    for answer in ANSWERS:
                        left = plain_spots(called(sides, form, place, answer))
                        for other, part in plain_spots(form).items():
                            if are_apart(place, other):
                                self.assertEqual(left[other], part)

    def test_due_places_of_a_book(self):
        for sides in SOME:
            if not is_book(sides):
                continue
            for form in FORMS:
                due = due_places(sides, form)
                for place in due:
                    own = side_at(sides, form, place)
                    fits = [side for side in sides if plain_lies(side, plain_spots(form)[place])]
                    self.assertEqual(fits, [own])
                    for other in due:
                        if is_above(place, other):
                            self.assertIsNotNone(under(own, other[len(place):]))

    def test_due_stays_due(self):
        for sides in SOME:
            if not is_book(sides):
                continue
            for form in FORMS[:24]:
                for place in due_places(sides, form):
                    for at in plain_calls(sides, form):
                        if at != place and not is_above(at, place):
                            for answer in ANSWERS:
                                left = called(sides, form, at, answer)
                                self.assertEqual(side_at(sides, left, place), side_at(sides, form, place))

    def test_ended_has_its_own_blot(self):
        for sides in SOME:
            for form in FORMS:
                if is_ended(sides, form):
                    self.assertEqual(plain_blot(sides, form), form)


if __name__ == "__main__":
    unittest.main()
