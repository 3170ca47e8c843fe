"""[5]: BOOKS."""

import itertools
import unittest

from notinvain.books import agreeing, books_within, clash, first_signs, fits_in, fitting, is_book, is_overlap
from notinvain.books import is_plain, is_side, is_sides, most_book, overlap_form, overlaps, parts_of, pattern_of
from notinvain.books import sides_with, signs_of, split_by, spoilers, under
from notinvain.errors import CanNot, NoNumber, NoPlace
from tests.small import A, B, FEW_SIGNS, forms_of, is_above, more_things, nested, odd_things, plain_agree
from tests.small import plain_lies, plain_put, plain_spots, sides_of, tower

SIDES = (("f", (), ("b",)), ("f", ("g", ()), ("a",)), ("g", ("a",)))
FORMS = forms_of(FEW_SIGNS, 5)
SOME = sides_of(FEW_SIGNS, 3, 3)


def plain_overlaps(sides):
    """All OVERLAPS, from their words."""
    rows = []
    for number, first in enumerate(sides):
        for other, second in enumerate(sides):
            for place, part in plain_spots(second).items():
                if part != () and plain_agree(first, part) and (place != () or number < other):
                    rows.append((number, other, place))
    return tuple(sorted(rows))


def is_clean(sides):
    return not plain_overlaps(sides)


class Examples(unittest.TestCase):

    def test_overlaps(self):
        self.assertEqual(overlaps(SIDES), ((2, 1, (0,)),))
        self.assertEqual(overlap_form(SIDES, (2, 1, (0,))), ("f", ("g", ("a",)), ("a",)))
        self.assertIs(is_plain(SIDES), False)
        self.assertIs(is_book(SIDES[:2]), True)

    def test_books_within(self):
        self.assertEqual(books_within(SIDES), (SIDES[:2], (SIDES[0], SIDES[2])))
        self.assertEqual(agreeing(SIDES, ("f", (), ())), (0, 1))
        self.assertEqual(clash(SIDES, ("f", ("g", ("a",)), ("a",))), ((), 1, 2))

    def test_under(self):
        self.assertEqual(under(SIDES[1], (0, 0, 4)), (0, (4,)))
        self.assertIsNone(under(SIDES[1], (0,)))
        self.assertEqual(split_by(SIDES, ("f", (), ()), (0,)), (((), (0,)), (("g", 1), (1,))))
        self.assertEqual(pattern_of(SIDES[1]), ((), (0,), (1,)))


class Kinds(unittest.TestCase):

    def test_is_side(self):
        for form in FORMS:
            self.assertIs(is_side(form), form != ())
        for name in ("end", "stop", "mark"):
            for form in ((name,), (name, ()), ("f", (), ("g", (name,)))):
                self.assertIs(is_side(form), False)
        for form in (("ends",), ("abcdefgh",), ("f", ("a",), (), ()), tower(20)):
            self.assertIs(is_side(form), True)
        for thing in odd_things() + more_things():
            self.assertIs(is_side(thing), False, thing)

    def test_is_sides(self):
        for sides in SOME:
            self.assertIs(is_sides(sides), True)
            self.assertIs(is_sides(list(sides)), False)
        self.assertIs(is_sides(tuple((chr(97 + k),) for k in range(26))), True)
        for sides in ((B, A), (A, A), ((),), (A, ["b"]), (A, ("end",)), (("f", ()), ("f",)), A, (A, 1), (A, None),
                      ((("a",),),), (("f", (), (), (), ()),), (("abcdefghi",),), (("A",),), (A, ("f", ("mark",)))):
            self.assertIs(is_sides(sides), False, sides)

    def test_empty_sides(self):
        self.assertIs(is_sides(()), True)
        self.assertIs(is_book(()), True)
        self.assertIs(is_plain(()), True)

    def test_is_book(self):
        for sides in SOME:
            self.assertIs(is_book(sides), is_clean(sides))
            self.assertIs(is_book(list(sides)), False)
        self.assertIs(is_book((("f", ("f", ())),)), False)
        self.assertIs(is_book((("f", ("f", (), ()), B),)), False)
        self.assertIs(is_book((("f", ("f", A, ()), B),)), True)
        self.assertIs(is_book((("f", ("f", (), B), B),)), False)
        self.assertIs(is_book((("f", ("f", A), B),)), True)

    def test_odd_things(self):
        for thing in odd_things() + more_things():
            self.assertIs(is_sides(thing), False, thing)
            self.assertIs(is_book(thing), False, thing)
        self.assertIs(is_sides(nested(tuple, 20)), False)
        self.assertIs(is_sides((tower(19),)), True)
        self.assertIs(is_book((tower(19),)), False)

    def test_is_plain(self):
        self.assertIs(is_plain((("f", ("f", ())),)), False)
        self.assertIs(is_plain((("f", ("f",)),)), True)
        self.assertIs(is_plain((("f", A), ("g", ("a", ())))), True)
        self.assertIs(is_plain((("f", A), ("g", ("f", B)))), False)
        self.assertIs(is_plain((("f", ()), ("f", A))), True)


class Lists(unittest.TestCase):

    def test_of_none(self):
        for look in (parts_of, signs_of, first_signs, overlaps, spoilers):
            self.assertEqual(look(()), ())
        self.assertEqual(agreeing((), A), ())
        self.assertEqual(fits_in((), SIDES[0]), ())
        self.assertIsNone(fitting((), A))
        self.assertIsNone(clash((), SIDES[0]))
        self.assertEqual(split_by((), (), ()), ())
        self.assertEqual(books_within(()), ((),))
        self.assertEqual(most_book(()), ())
        self.assertEqual(sides_with((), ("f", 1)), ())

    def test_parts_and_signs(self):
        sides = (("f", A, ("g", A)), ("f", ("g", ()), ()), ("h",))
        self.assertEqual(parts_of(sides), (A, ("g", ()), ("g", A)))
        self.assertEqual(signs_of(sides), (("a", 0), ("f", 2), ("g", 1), ("h", 0)))
        self.assertEqual(first_signs(sides), (("f", 2), ("h", 0)))
        self.assertEqual(parts_of((("h",),)), ())

    def test_pattern(self):
        self.assertEqual(pattern_of(("h",)), ((),))
        self.assertEqual(pattern_of(("h", (), ())), ((),))
        self.assertEqual(pattern_of(("h", ("g", A), (), B)), ((), (0,), (0, 0), (2,)))

    def test_sides_with(self):
        sides = (("f", A), ("f", A, ()), ("f", B), ("g", ("f", ())))
        self.assertEqual(sides_with(sides, ("f", 1)), (("f", A), ("f", B)))
        self.assertEqual(sides_with(sides, ("f", 2)), (("f", A, ()),))
        self.assertEqual(sides_with(sides, ("f", 0)), ())

    def test_fitting(self):
        for sides in SOME:
            for form in FORMS[:24]:
                fits = [side for side in sides if plain_lies(side, form)]
                self.assertEqual(fitting(sides, form), fits[0] if fits else None)
                agreed = tuple(k for k, side in enumerate(sides) if plain_agree(side, form))
                self.assertEqual(agreeing(sides, form), agreed)
        self.assertEqual(fitting((("f", (), ()), ("f", A, ())), ("f", A, A)), ("f", (), ()))
        self.assertEqual(agreeing(SIDES, ()), (0, 1, 2))

    def test_fits_in(self):
        for sides in SOME:
            for form in FORMS[:24]:
                rows = [(place, k) for place, part in plain_spots(form).items()
                        for k, side in enumerate(sides) if plain_lies(side, part)]
                self.assertEqual(fits_in(sides, form), tuple(sorted(rows)))

    def test_spoilers(self):
        own = ("f", ("f", A, ()), B)
        sides = tuple(sorted((own, ("g", ("g", ())), ("g", A), ("h", ("f", A, B)))))
        self.assertEqual(spoilers(sides), (("g", ("g", ())),))
        self.assertEqual(spoilers((("f", ("f", ()), ()),)), ())
        self.assertEqual(spoilers((("f", ("f", (), ()), ()),)), (("f", ("f", (), ()), ()),))
        for sides in SOME:
            self.assertEqual(spoilers(sides), tuple(side for side in sides if not is_clean((side,))))


class Under(unittest.TestCase):

    def test_at_and_below_open(self):
        side = ("f", (), ("g", A, ()), ())
        self.assertEqual(under(side, (0,)), (0, ()))
        self.assertEqual(under(side, (1, 1)), (1, ()))
        self.assertEqual(under(side, (2, 0, 7)), (2, (0, 7)))
        for place in ((), (1,), (1, 0)):
            self.assertIsNone(under(side, place))

    def test_leaving(self):
        side = ("f", (), ("g", A, ()))
        for place in ((2,), (-1,), (1, 2), (1, 0, 0), (1, 0, 0, 0), (1, -1), (3, 0)):
            with self.assertRaises(NoPlace) as caught:
                under(side, place)
            self.assertEqual(caught.exception.place, place)

    def test_places_of_what_it_fits(self):
        for side in (SIDES[0], SIDES[1], ("f", ("f", (), A), ())):
            for form in forms_of(FEW_SIGNS + (("b", 0),), 6):
                if not plain_lies(side, form):
                    continue
                own = sorted(place for place, part in plain_spots(side).items() if part == ())
                for place in plain_spots(form):
                    if plain_spots(side).get(place):
                        self.assertIsNone(under(side, place))
                    else:
                        number, rest = under(side, place)
                        self.assertEqual(own[number] + rest, place)


class Overlaps(unittest.TestCase):

    def test_as_its_words_say(self):
        for sides in SOME:
            rows = plain_overlaps(sides)
            self.assertEqual(overlaps(sides), rows)
            for number, other in itertools.product(range(-1, len(sides) + 1), repeat=2):
                for place in ((), (0,), (1,), (0, 0), (2,), (-1,)):
                    self.assertIs(is_overlap(sides, (number, other, place)), (number, other, place) in rows)

    def test_with_itself(self):
        self.assertEqual(overlaps((("f", ("f", ())),)), ((0, 0, (0,)),))
        self.assertEqual(overlaps((("f", ()), ("f", A))), ((0, 1, ()),))

    def test_near_misses(self):
        sides = (("f", ()), ("f", ("f", A)))
        self.assertEqual(overlaps(sides), ((0, 1, ()), (0, 1, (0,))))
        self.assertIs(is_overlap(sides, (0, 1, ())), True)
        for thing in ([0, 1, ()], (0, 1, []), (False, 1, ()), (0, True, ()), (0, 1, (False,)), (1, 0, ()), (0, 1),
                      (0, 1, (), ()), (0, 1, 0), (0, 1, None), (0, 1, (0, 0)), (0, 0, ()), (-2, 1, ()), (0, -1, ()),
                      ("0", 1, ()), (0, 1, ("0",)), (0, 1, ((),))):
            self.assertIs(is_overlap(sides, thing), False, thing)
        for thing in odd_things() + more_things():
            self.assertIs(is_overlap(sides, thing), False, thing)

    def test_least_form(self):
        for sides in SOME:
            for row in overlaps(sides):
                number, other, place = row
                whole = overlap_form(sides, row)
                self.assertTrue(plain_lies(sides[other], whole))
                self.assertTrue(plain_lies(sides[number], plain_spots(whole)[place]))
                self.assertIsNotNone(clash(sides, whole))
                for form in FORMS:
                    if plain_lies(sides[other], form) and place in plain_spots(form):
                        if plain_lies(sides[number], plain_spots(form)[place]):
                            self.assertTrue(plain_lies(whole, form))

    def test_errors_in_their_order(self):
        for row, number in (((3, 4, ()), 3), ((-1, 5, ()), -1), ((0, 7, (9,)), 7), ((1, -2, ()), -2), ((3, 0, ()), 3)):
            with self.assertRaises(NoNumber) as caught:
                overlap_form(SIDES, row)
            self.assertEqual(caught.exception.number, number)
        for row in ((0, 1, ()), (1, 0, ()), (2, 1, ()), (2, 1, (1,)), (2, 1, (0, 0)), (2, 1, (5,)), (0, 0, ())):
            self.assertRaises(CanNot, overlap_form, SIDES, row)
        self.assertRaises(NoNumber, overlap_form, (), (0, 0, ()))
        # Two SIDES that agree are told once, the number of the lesser one first.
        agreed = (("f", ()), ("f", A))
        self.assertEqual(overlap_form(agreed, (0, 1, ())), ("f", A))
        self.assertRaises(CanNot, overlap_form, agreed, (1, 0, ()))


class Within(unittest.TestCase):

    def test_as_its_words_say(self):
        for sides in SOME:
            parts = [own for size in range(len(sides) + 1) for own in itertools.combinations(sides, size)]
            clean = [own for own in parts if is_clean(own)]
            most = [own for own in clean if not any(set(own) < set(other) for other in clean)]
            self.assertEqual(books_within(sides), tuple(sorted(most)))
            size = max(len(own) for own in most)
            self.assertEqual(most_book(sides), min(own for own in most if len(own) == size))

    def test_nothing_but_spoilers(self):
        self.assertEqual(books_within((("f", ("f", ())),)), ((),))
        self.assertEqual(most_book((("f", ("f", ())),)), ())

    def test_not_the_first_but_the_most(self):
        sides = (("f", (), ()), ("f", ("a",), ()), ("f", ("b",), ()))
        self.assertEqual(books_within(sides), (sides[:1], sides[1:]))
        self.assertEqual(most_book(sides), sides[1:])


class Clash(unittest.TestCase):

    def test_as_its_words_say(self):
        for sides in SOME:
            for form in FORMS[:24]:
                rows = plain_spots(form)
                fits = [(place, k) for place in rows for k, side in enumerate(sides) if plain_lies(side, rows[place])]
                found = []
                for place, number in fits:
                    for below, part in plain_spots(sides[number]).items():
                        for other in range(len(sides)):
                            row = (place + below, other)
                            if part != () and row in fits and row != (place, number):
                                found.append((place, number, other))
                self.assertEqual(clash(sides, form), min(found) if found else None)

    def test_two_at_one_place(self):
        sides = (("f", ()), ("f", A))
        self.assertEqual(clash(sides, ("g", ("f", A))), ((0,), 0, 1))
        self.assertIsNone(clash(sides, ("f", ("f", ()))))


class Split(unittest.TestCase):

    def test_as_its_words_say(self):
        for sides in SOME:
            for form in FORMS[:24]:
                for place, part in plain_spots(form).items():
                    if part != ():
                        self.assertRaises(CanNot, split_by, sides, form, place)
                        continue
                    table = {}
                    for number, side in enumerate(sides):
                        if plain_agree(side, form):
                            own = plain_spots(side).get(place, ())
                            table.setdefault((own[0], len(own) - 1) if own else (), []).append(number)
                    rows = tuple(sorted((sign, tuple(some)) for sign, some in table.items()))
                    self.assertEqual(split_by(sides, form, place), rows)

    def test_open_above(self):
        sides = (("f", ()), ("f", ("g", A)), ("f", ("g", B)), ("f", ("h",)))
        self.assertEqual(split_by(sides, ("f", ("g", ())), (0, 0)),
                         (((), (0,)), (("a", 0), (1,)), (("b", 0), (2,))))
        self.assertEqual(split_by(sides, (), ()), ((("f", 1), (0, 1, 2, 3)),))

    def test_errors_in_their_order(self):
        for place in ((2,), (0, 0), (-1,)):
            with self.assertRaises(NoPlace) as caught:
                split_by(SIDES, ("f", (), A), place)
            self.assertEqual(caught.exception.place, place)
        self.assertRaises(CanNot, split_by, SIDES, ("f", (), A), (1,))
        self.assertRaises(CanNot, split_by, SIDES, ("f", (), A), ())


class Laws(unittest.TestCase):

    def test_clash_and_book(self):
        for sides in SOME:
            if is_book(sides):
                self.assertTrue(all(clash(sides, form) is None for form in FORMS))
            else:
                self.assertTrue(all(clash(sides, overlap_form(sides, row)) for row in overlaps(sides)))

    def test_lower_due_place_is_under_an_open_one(self):
        for sides in SOME:
            if is_book(sides):
                for form in FORMS:
                    for (place, number), (below, _) in itertools.permutations(fits_in(sides, form), 2):
                        if is_above(place, below):
                            self.assertIsNotNone(under(sides[number], below[len(place):]))

    def test_parts_of_books(self):
        for sides in SOME:
            few = list(itertools.combinations(sides, 1)) + list(itertools.combinations(sides, 2))
            self.assertEqual(is_book(sides), all(is_book(own) for own in few))
            if is_plain(sides) and not any(row[2] == () for row in overlaps(sides)):
                self.assertTrue(is_book(sides))

    def test_what_fits_agrees_with_no_other(self):
        for sides in SOME:
            if is_book(sides):
                for form in FORMS:
                    own = fitting(sides, form)
                    if own is not None:
                        self.assertEqual(agreeing(sides, form), (sides.index(own),))


if __name__ == "__main__":
    unittest.main()
