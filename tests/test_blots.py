"""[7]: what stands whatever comes."""

import itertools
import unittest

from notinvain.blots import blot, blot_rows, can_strike, greatest_held, holds_up, is_strikes, is_struck_whole
from notinvain.blots import is_whole, reaches, strike, strikes_by, struck, struck_by, undecided
from notinvain.books import is_book, is_overlap, overlaps
from notinvain.errors import CanNot, NoPlace
from tests.small import A, B, END, FEW_SIGNS, as_lists, forms_of, is_above, more_things, odd_things, plain_agree
from tests.small import plain_blot, plain_lies, plain_put, plain_spots, sides_of, tower

THREE = (("f", (), ("a",), ("b",)), ("f", ("a",), ("b",), ()), ("f", ("b",), (), ("a",)))
FORM = ("f", ("b",), ("b",), ("g", ("f", (), (), ())))
CHAIN = (("f", ("c",)), ("h", ()))
MARK = ("mark",)
SOME = sides_of(FEW_SIGNS, 3, 2)
FORMS = forms_of(FEW_SIGNS, 5)
FEW_FORMS = forms_of(FEW_SIGNS, 4)


def from_below(form, above=()):
    """The PLACES of form, those of the parts ahead, the first part first."""
    rows = []
    for number, part in enumerate(form[1:]):
        rows.extend(from_below(part, above + (number,)))
    return rows + [above]


def all_strikes(sides, form):
    """All STRIKES of form, each with what it leaves."""
    rows = [((), form)]
    for place, part in plain_spots(form).items():
        for number, side in enumerate(sides):
            if part != () and plain_agree(side, part):
                for rest, left in all_strikes(sides, plain_put(form, place, ())):
                    rows.append((((place, number),) + rest, left))
    return rows


def plain_rows(sides, form):
    """The STRIKES of one pass from below, and what they leave."""
    rows, left = [], form
    for place in from_below(form):
        part = plain_spots(left)[place]
        agreed = [number for number, side in enumerate(sides) if plain_agree(side, part)]
        if part != () and agreed:
            rows.append((place, agreed[0]))
            left = plain_put(left, place, ())
    return tuple(rows), left


class Examples(unittest.TestCase):

    def test_blot(self):
        self.assertEqual(blot(THREE, FORM), ("f", ("b",), ("b",), ("g", ())))
        self.assertEqual(blot_rows(THREE, FORM), (((2, 0), 0),))
        self.assertEqual(struck_by(THREE, FORM[3][1]), 0)

    def test_held(self):
        self.assertEqual(undecided(THREE, FORM), ((2, 0), (2, 0, 0), (2, 0, 1), (2, 0, 2)))
        self.assertEqual(greatest_held(THREE, FORM), ((), (0,), (1,), (2,)))
        self.assertIs(holds_up(THREE, FORM, ((0,),)), True)
        self.assertIs(holds_up(THREE, FORM, ((), (0,))), False)

    def test_chain(self):
        self.assertEqual(blot_rows(CHAIN, ("f", ("h", ("c",)))), (((0,), 1), ((), 0)))
        self.assertIs(can_strike(CHAIN, ("f", ("h", ("c",))), ()), False)
        self.assertEqual(struck(CHAIN, ("f", ("h", ("c",))), (((0,), 1),)), ("f", ()))
        self.assertEqual(strikes_by(CHAIN, ("f", ("h", ())), ((), (0,))), (((0,), 1), ((), 0)))

    def test_reaches(self):
        self.assertEqual(reaches((("f", ("g",)), ("g",)), ("g",)), (1, 0, (0,)))
        self.assertIsNone(reaches(CHAIN, ("f", ("h", ("c",)))))

    def test_no_place(self):
        with self.assertRaises(NoPlace) as caught:
            strike(CHAIN, ("f", ("h", ())), (1,))
        self.assertEqual(caught.exception.place, (1,))

    def test_falls_with_the_whole(self):
        sides, form = (("f", ("g", ()), A),), ("f", ("g", ()), ())
        self.assertEqual(blot(sides, form), ())
        self.assertEqual(greatest_held(sides, form), ((0,),))
        self.assertIs(holds_up(sides, form, ((0,),)), True)


class Blots(unittest.TestCase):

    def test_as_the_words_say(self):
        for sides in SOME:
            for form in FORMS:
                rows, left = plain_rows(sides, form)
                self.assertEqual(plain_blot(sides, form), left)
                self.assertEqual(blot(sides, form), left)
                self.assertEqual(blot_rows(sides, form), rows)
                self.assertIs(is_struck_whole(sides, form), left == ())
                agreed = [number for number, side in enumerate(sides) if plain_agree(side, form)]
                self.assertEqual(struck_by(sides, form), agreed[0] if agreed and form else None)

    def test_no_sides(self):
        for form in FORMS:
            self.assertEqual(blot((), form), form)
            self.assertEqual(blot_rows((), form), ())
            self.assertIs(is_struck_whole((), form), form == ())
        self.assertIsNone(struck_by((), A))

    def test_open_and_mark(self):
        self.assertIsNone(struck_by(THREE, ()))
        self.assertEqual(blot(THREE, ()), ())
        self.assertEqual(blot_rows(THREE, ()), ())
        self.assertEqual(blot(THREE, MARK), MARK)
        self.assertEqual(blot(THREE, ("f", (), A, MARK)), ("f", (), A, MARK))
        self.assertEqual(blot(THREE, ("f", MARK, A, B)), ())
        self.assertEqual(blot(CHAIN, ("h", MARK)), ())
        self.assertEqual(blot(CHAIN, ("f", MARK)), ("f", MARK))

    def test_the_first_that_agrees(self):
        sides = (("f", (), A), ("f", (), B), ("f", A, ()))
        self.assertEqual(struck_by(sides, ("f", (), ())), 0)
        self.assertEqual(struck_by(sides, ("f", B, B)), 1)
        self.assertEqual(blot_rows(sides, ("f", ("f", A, ("c",)), ("f", (), B))), (((0,), 2), ((1,), 1), ((), 0)))

    def test_deep(self):
        self.assertEqual(blot((("g", ()),), tower(600)), ())
        self.assertEqual(len(blot_rows((("g", ()),), tower(600))), 599)


class Strikes(unittest.TestCase):

    def test_where(self):
        for sides in SOME:
            for form in FEW_FORMS:
                for place, part in plain_spots(form).items():
                    good = part != () and any(plain_agree(side, part) for side in sides)
                    self.assertIs(can_strike(sides, form, place), good)
                    if good:
                        self.assertEqual(strike(sides, form, place), plain_put(form, place, ()))
                    else:
                        self.assertRaises(CanNot, strike, sides, form, place)

    def test_no_place_first(self):
        for place in ((1,), (0, 1), (-1,), (False,), (0, 0, 0)):
            for deed in (can_strike, strike):
                with self.assertRaises(NoPlace) as caught:
                    deed(CHAIN, ("f", ("h", ())), place)
                self.assertEqual(caught.exception.place, place)

    def test_all_strikes(self):
        for sides in SOME:
            for form in FEW_FORMS:
                whole = plain_blot(sides, form)
                for strikes, left in all_strikes(sides, form):
                    self.assertIs(is_strikes(sides, form, strikes), True)
                    self.assertEqual(struck(sides, form, strikes), left)
                    self.assertIs(is_whole(sides, form, strikes), left == whole)

    def test_all_pairs(self):
        rows = list(itertools.product(((), (0,), (1,), (0, 0), (2,)), (0, 1, 2, -1)))
        for sides in SOME[::9]:
            for form in FEW_FORMS:
                good = dict(all_strikes(sides, form))
                for strikes in itertools.product(rows, repeat=2):
                    self.assertIs(is_strikes(sides, form, strikes), strikes in good)
                    if strikes not in good:
                        self.assertRaises(CanNot, struck, sides, form, strikes)
                        self.assertIs(is_whole(sides, form, strikes), False)

    def test_empty(self):
        self.assertIs(is_strikes(CHAIN, A, ()), True)
        self.assertIs(is_whole(CHAIN, A, ()), True)
        self.assertIs(is_whole(CHAIN, (), ()), True)
        self.assertIs(is_whole(CHAIN, ("h", A), ()), False)
        self.assertEqual(struck(CHAIN, ("h", A), ()), ("h", A))
        self.assertEqual(strikes_by(CHAIN, ("h", A), ()), ())

    def test_spoiled(self):
        form, strikes = ("f", ("h", ("h", A))), (((0, 0), 1), ((0,), 1), ((), 0))
        self.assertIs(is_whole(CHAIN, form, strikes), True)
        self.assertIs(is_whole(CHAIN, form, strikes[1:]), True)
        self.assertIs(is_whole(CHAIN, form, strikes[:2]), False)
        self.assertIs(is_strikes(CHAIN, form, strikes[:2]), True)
        for thing in (list(strikes), as_lists(strikes), strikes[::-1], strikes + strikes[2:], strikes[:1] + strikes,
                      strikes + (((), 1),), (((0, 0), True), ((0,), 1)), (((0, 0), 1, 0),), (((0, 0),),), (((0, 0), 0),),
                      (((0, 0), -1),), (((0, 0), 2),), (((0, 0), None),), ([(0, 0), 1],), (([0, 0], 1),),
                      (((0, False), 1),), (((0, 0), "1"),), ((0, 1),), (((), 0),), (((0, 0, 0), 1),), (((9,), 1),)):
            self.assertIs(is_strikes(CHAIN, form, thing), False, thing)
            self.assertIs(is_whole(CHAIN, form, thing), False, thing)
        for thing in odd_things() + more_things():
            self.assertIs(is_strikes(CHAIN, A, thing), False, thing)
            self.assertIs(is_whole(CHAIN, A, thing), False, thing)

    def test_what_is_none(self):
        for strikes in ((((0,), 0),), (((), 0),), (((5,), 1),), ((1, 2),), (((0,), 1), ((0,), 1)), 0, None):
            self.assertRaises(CanNot, struck, CHAIN, ("f", ("h", ())), strikes)
        self.assertEqual(struck(CHAIN, ("f", ("h", ())), [[[0], 1], [[], 0]]), ())


class Orders(unittest.TestCase):

    def test_as_the_words_say(self):
        for sides in SOME[::2]:
            for form in FEW_FORMS[::2]:
                for order in itertools.permutations(plain_spots(form)):
                    self.check(sides, form, order)
                    self.check(sides, form, order[:2])
                    self.check(sides, form, order[:1] * 2)

    def check(self, sides, form, order):
        rows, left = [], form
        while True:
            own = plain_spots(left)
            found = [(place, number) for place in order for number, side in enumerate(sides)
                     if own.get(place) and plain_agree(side, own[place])]
            if not found:
                break
            rows.append(found[0])
            left = plain_put(left, found[0][0], ())
        self.assertEqual(strikes_by(sides, form, order), tuple(rows))

    def test_again_from_the_first(self):
        sides = (("f", A, ()), ("g", A), ("g", B))
        form = ("f", ("g", B), ("g", A))
        self.assertEqual(strikes_by(sides, form, ((1,), (), (0,))), (((1,), 1), ((0,), 2), ((), 0)))
        self.assertEqual(strikes_by(sides, form, ((0,), (), (1,))), (((0,), 2), ((), 0)))

    def test_no_place(self):
        for order in (((), (0, 1), (7,)), ((0, 1), (0,)), ((0,), (0, 1))):
            with self.assertRaises(NoPlace) as caught:
                strikes_by(CHAIN, ("f", ("h", ())), order)
            self.assertEqual(caught.exception.place, (0, 1))


class Held(unittest.TestCase):

    def test_undecided(self):
        for sides in SOME:
            for form in FORMS:
                places = [place for place, part in plain_spots(form).items() if plain_blot(sides, part) == ()]
                self.assertEqual(undecided(sides, form), tuple(sorted(places)))

    def test_holds_up(self):
        for sides in SOME:
            for form in FEW_FORMS:
                own = plain_spots(form)
                rows, _ = plain_rows(sides, form)
                fallen = [place for place, _ in rows]
                held = tuple(sorted(place for place in own if own[place] and place not in fallen))
                self.assertEqual(greatest_held(sides, form), held)
                self.assertIs(holds_up(sides, form, held), True)
                for size in range(len(own) + 1):
                    for places in itertools.combinations(sorted(own), size):
                        good = self.plain_holds(sides, form, places)
                        self.assertIs(holds_up(sides, form, places), good)
                        self.assertTrue(not good or set(places) <= set(held))

    def plain_holds(self, sides, form, places):
        for place in places:
            part = plain_spots(form)[place]
            for below in sorted(plain_spots(part), reverse=True):
                if below and place + below not in places:
                    part = plain_put(part, below, ())
            if part == () or any(plain_agree(side, part) for side in sides):
                return False
        return True

    def test_empty_set(self):
        self.assertIs(holds_up(THREE, (), ()), True)
        self.assertIs(holds_up(THREE, ("f", (), (), ()), ()), True)
        self.assertIs(holds_up(THREE, (), ((),)), False)
        self.assertIs(holds_up((), A, ((),)), True)
        self.assertIs(holds_up(THREE, MARK, ((),)), True)

    def test_no_place_first(self):
        for places in (((), (0, 3), (9,)), ((0, 3),), ((), (0,), (0, 3))):
            with self.assertRaises(NoPlace) as caught:
                holds_up(CHAIN, ("h", ("f", ("c",))), places)
            self.assertEqual(caught.exception.place, (0, 3))

    def test_nothing_held_is_ever_struck(self):
        for sides in SOME:
            for form in FEW_FORMS:
                held = greatest_held(sides, form)
                for strikes, _ in all_strikes(sides, form):
                    self.assertFalse(set(held) & {place for place, _ in strikes})

    def test_signs_of_the_blot(self):
        for sides in SOME:
            for form in FORMS:
                held, left = greatest_held(sides, form), plain_spots(blot(sides, form))
                own = plain_spots(form)
                seen = [place for place in held
                        if all(other in held for other in own if is_above(other, place))]
                self.assertEqual(sorted(place for place in left if left[place]), sorted(seen))
                for place in seen:
                    self.assertEqual((left[place][0], len(left[place])), (own[place][0], len(own[place])))


class Reaches(unittest.TestCase):

    def test_blot_is_not_open(self):
        for sides in SOME:
            for form in FEW_FORMS:
                if plain_blot(sides, form) != ():
                    self.assertRaises(CanNot, reaches, sides, form)
        self.assertRaises(CanNot, reaches, (), A)

    def test_as_the_words_say(self):
        found = 0
        for sides in sides_of(FEW_SIGNS, 3, 3) + sides_of(FEW_SIGNS, 4, 1):
            for form in FEW_FORMS:
                if plain_blot(sides, form) == ():
                    wanted = self.plain_reaches(sides, form)
                    found += wanted is not None
                    self.assertEqual(reaches(sides, form), wanted)
                    self.assertTrue(wanted is None or is_overlap(sides, wanted))
                    self.assertTrue(wanted is None or not is_book(sides))
        self.assertGreater(found, 100)

    def plain_reaches(self, sides, form):
        for other, side in enumerate(sides):
            for above, part in sorted(plain_spots(side).items()):
                if above and part and plain_lies(part, form):
                    for place, number in plain_rows(sides, form)[0]:
                        if plain_spots(part).get(place):
                            return (number, other, above + place)
        return None

    def test_of_open(self):
        self.assertIsNone(reaches(overlapping(), ()))
        self.assertIsNone(reaches((), ()))

    def test_below_in_the_part(self):
        sides = overlapping()
        self.assertEqual(reaches(sides, ("g", ("h", A))), (2, 0, (0, 0)))
        self.assertIn((2, 0, (0, 0)), overlaps(sides))


def overlapping():
    """SIDES that are no BOOK: h(_) agrees with what stands in f(g(h(a))), and then g(_) agrees with it."""
    return (("f", ("g", ("h", A))), ("g", B), ("h", ()))


class Laws(unittest.TestCase):

    def test_all_whole_strikes_leave_the_same(self):
        for sides in sides_of(FEW_SIGNS, 3, 2) + sides_of(FEW_SIGNS, 4, 1):
            for form in FEW_FORMS:
                rows = all_strikes(sides, form)
                places = {place for place, _ in blot_rows(sides, form)}
                for strikes, left in rows:
                    self.assertTrue({place for place, _ in strikes} <= places)
                    if not any(own and plain_agree(side, own) for own in plain_spots(left).values() for side in sides):
                        self.assertEqual(left, blot(sides, form))

    def test_blot_follows_lying_in(self):
        for sides in SOME:
            own = {form: blot(sides, form) for form in FEW_FORMS}
            for form in FEW_FORMS:
                for other in FEW_FORMS:
                    if plain_lies(form, other):
                        self.assertTrue(plain_lies(own[form], own[other]))

    def test_blot_of_what_stands_in_a_blot(self):
        for sides in SOME:
            for form in FORMS:
                for part in plain_spots(blot(sides, form)).values():
                    self.assertEqual(blot(sides, part), part)

    def test_no_part_lies_in_what_is_struck_whole(self):
        for sides in sides_of(FEW_SIGNS, 3, 3):
            if is_book(sides):
                for form in FEW_FORMS:
                    if is_struck_whole(sides, form):
                        self.assertIsNone(reaches(sides, form))

    def test_barred_names_are_never_struck(self):
        for sides in SOME:
            for form in (END, MARK, ("stop",)):
                self.assertEqual(blot(sides, form), form)


if __name__ == "__main__":
    unittest.main()
