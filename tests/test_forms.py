"""[4]: FORMS."""

import unittest

from notinvain.errors import CanNot, NoPlace, Unfit
from notinvain.forms import do_agree, filling, form_spelled, has_name, is_form, is_term, joined, joined_all
from notinvain.forms import lies_in, met_form, odds_of, open_places, places_of, put_at, sign_of, signs_in
from notinvain.forms import size_of, spelling_of, stands_at, with_parts
from tests.small import A, B, SIGNS, forms_of, more_things, nested, odd_things, plain_agree, plain_lies
from tests.small import plain_put, plain_spots, tower

LEFT, RIGHT = ("f", ("g", ()), ()), ("f", (), ("b",))
FORMS = forms_of(SIGNS, 4)
NO_PLACES = ((0, 0, 0), (2,), (-1,), (0, -1), (1, 0), (True,), (False,), ("a",), (None,), ((),), ((0,),), (10 ** 30,))


class Examples(unittest.TestCase):

    def test_join_and_meet(self):
        self.assertEqual(joined(LEFT, RIGHT), ("f", ("g", ()), ("b",)))
        self.assertEqual(met_form(LEFT, RIGHT), ("f", (), ()))
        self.assertIs(lies_in(RIGHT, LEFT), False)
        self.assertIs(do_agree(LEFT, ("f", ("a",), ())), False)

    def test_places(self):
        self.assertEqual(places_of(LEFT), ((), (0,), (0, 0), (1,)))
        self.assertEqual(open_places(LEFT), ((0, 0), (1,)))
        self.assertEqual(size_of(LEFT), 4)
        self.assertEqual(spelling_of(LEFT), (("f", 2), ("g", 1), (), ()))

    def test_parts(self):
        self.assertEqual(with_parts(LEFT, (A, RIGHT)), ("f", ("g", ("a",)), ("f", (), ("b",))))
        self.assertEqual(filling(LEFT, joined(LEFT, RIGHT)), ((), ("b",)))

    def test_odds(self):
        self.assertEqual(odds_of(("f", A, B), ("f", (), ("c",))), (1,))
        self.assertEqual(odds_of(("f",), ("f", ())), ())
        self.assertIsNone(odds_of((), LEFT))

    def test_stands_put_spelled(self):
        self.assertEqual(stands_at(LEFT, (0,)), ("g", ()))
        self.assertEqual(put_at(LEFT, (0, 0), A), ("f", ("g", ("a",)), ()))
        self.assertEqual(form_spelled((("f", 2), (), ("b", 0))), ("f", (), ("b",)))


class IsForm(unittest.TestCase):

    def test_forms(self):
        for form in FORMS + [("mark",), ("end",), ("stop",), ("abcdefgh",), ("f", (), (), ()), ("z", ("a", ()))]:
            self.assertIs(is_form(form), True)

    def test_twenty_deep(self):
        self.assertIs(is_form(tower(20)), True)
        self.assertIs(is_form(nested(tuple, 20)), False)
        self.assertIs(is_form(plain_put(tower(19), (0,) * 18, [])), False)
        self.assertIs(is_form(plain_put(tower(20), (0,) * 19, True)), False)

    def test_more_places_than_passed_in(self):
        wide = ("f", (), (), ())
        for _ in range(5):
            wide = ("f", wide, wide, wide)
        self.assertIs(is_form(wide), True)

    def test_others(self):
        for thing in odd_things() + more_things():
            self.assertIs(is_form(thing), False, thing)


class Looks(unittest.TestCase):

    def test_term(self):
        for form in FORMS:
            self.assertIs(is_term(form), () not in plain_spots(form).values())

    def test_sign_of(self):
        self.assertIsNone(sign_of(()))
        self.assertEqual(sign_of(("mark",)), ("mark", 0))
        self.assertEqual(sign_of(("f", (), A, ())), ("f", 3))

    def test_signs_in(self):
        self.assertEqual(signs_in(()), ())
        self.assertEqual(signs_in(("f", ("f", ()), ("a", ("a",)))), (("a", 0), ("a", 1), ("f", 1), ("f", 2)))

    def test_has_name(self):
        form = ("f", ("g", ("mark",)), ())
        self.assertEqual([has_name(form, name) for name in ("f", "g", "mark", "a", "end", "")],
                         [True, True, True, False, False, False])
        self.assertIs(has_name((), "a"), False)

    def test_places_ascend(self):
        for form in FORMS:
            rows = plain_spots(form)
            self.assertEqual(places_of(form), tuple(sorted(rows)))
            self.assertEqual(open_places(form), tuple(sorted(place for place in rows if rows[place] == ())))
            self.assertEqual(size_of(form), len(rows))

    def test_stands_at(self):
        for form in FORMS:
            for place, part in plain_spots(form).items():
                self.assertEqual(stands_at(form, place), part)

    def test_put_at(self):
        for form in FORMS:
            for place in plain_spots(form):
                for other in ((), LEFT, ("mark",)):
                    self.assertEqual(put_at(form, place, other), plain_put(form, place, other))

    def test_no_place(self):
        for place in NO_PLACES:
            for call in (lambda: stands_at(LEFT, place), lambda: put_at(LEFT, place, A)):
                with self.assertRaises(NoPlace) as caught:
                    call()
                self.assertEqual(caught.exception.place, place)
                self.assertIsInstance(caught.exception.place, tuple)
        self.assertRaises(NoPlace, stands_at, (), (0,))
        self.assertRaises(NoPlace, stands_at, A, (0,))

    def test_no_place_told_as_tuple(self):
        with self.assertRaises(NoPlace) as caught:
            stands_at(["f", []], [0, 1])
        self.assertEqual(caught.exception.place, (0, 1))


class Parts(unittest.TestCase):

    def test_none(self):
        self.assertEqual(with_parts(A, ()), A)
        self.assertEqual(with_parts((), (LEFT,)), LEFT)
        self.assertEqual(with_parts(("f", (), (), ()), (A, (), B)), ("f", A, (), B))

    def test_too_many_and_too_few(self):
        for form, parts in ((A, (A,)), ((), ()), ((), (A, A)), (LEFT, (A,)), (LEFT, (A, A, A))):
            self.assertRaises(Unfit, with_parts, form, parts)

    def test_filling(self):
        self.assertEqual(filling((), LEFT), (LEFT,))
        self.assertEqual(filling(A, A), ())
        self.assertIsNone(filling(A, ()))
        self.assertIsNone(filling(A, ("a", ())))
        self.assertEqual(filling(("f", (), A, ()), ("f", B, A, LEFT)), (B, LEFT))


class Spelling(unittest.TestCase):

    def test_no_spelling(self):
        rows = ((), ((), ()), (("f", 2), ()), (("f", 2), (), (), ()), (("a", 0), ()), ((), ("a", 0)), (("g", 1),),
                (("g", 1), ("g", 1)), (("f", 3), (), ()))
        for row in rows:
            self.assertRaises(CanNot, form_spelled, row)

    def test_signs_of_no_form(self):
        for sign in (("f", 4), ("f", -1), ("F", 0), ("", 0), ("abcdefghi", 0), ("f", True), ("f",), ("f", 0, 0), 0, "f"):
            self.assertRaises(CanNot, form_spelled, (sign,))
            self.assertRaises(CanNot, form_spelled, (sign, (), (), (), ()))

    def test_order_of_parts(self):
        row = (("f", 3), ("g", 1), ("a", 0), (), ("f", 2), ("b", 0), ("c", 0))
        self.assertEqual(form_spelled(row), ("f", ("g", A), (), ("f", B, ("c",))))

    def test_there_and_back(self):
        for form in FORMS:
            self.assertEqual(form_spelled(spelling_of(form)), form)
        rows = [spelling_of(form) for form in FORMS]
        self.assertEqual(len(set(rows)), len(FORMS))


class Deep(unittest.TestCase):

    def test_deeper_than_calls_go(self):
        form = tower(1500)
        self.assertIs(is_form(form), True)
        self.assertIs(lies_in(form, form), True)
        self.assertEqual(size_of(put_at(form, (0,) * 1499, A)), 1500)
        self.assertIsNone(odds_of(form, joined(form, ("g", ()))))


class Laws(unittest.TestCase):
    """The guarantees, for all pairs and some triples of the FORMS of four PLACES at most."""

    def test_lying_in_is_an_order(self):
        above = {form: [other for other in FORMS if lies_in(form, other)] for form in FORMS}
        self.assertEqual(above[()], FORMS)
        for form in FORMS:
            self.assertIn(form, above[form])
            for other in above[form]:
                self.assertTrue(other == form or form not in above[other])
                self.assertTrue(set(above[other]) <= set(above[form]))

    def test_lies_in_as_its_words_say(self):
        for form in FORMS:
            for other in FORMS:
                self.assertIs(lies_in(form, other), plain_lies(form, other))
                row = filling(form, other)
                self.assertEqual(row is not None, lies_in(form, other))
                if row is not None:
                    self.assertEqual(with_parts(form, row), other)
                    self.assertEqual(filling(form, with_parts(form, row)), row)

    def test_join(self):
        for form in FORMS:
            for other in FORMS:
                both = [own for own in FORMS if plain_lies(form, own) and plain_lies(other, own)]
                self.assertIs(do_agree(form, other), plain_agree(form, other))
                self.assertEqual(do_agree(form, other), odds_of(form, other) is None)
                if not do_agree(form, other):
                    self.assertEqual(both, [])
                    self.assertRaises(CanNot, joined, form, other)
                    continue
                whole = joined(form, other)
                self.assertTrue(plain_lies(form, whole) and plain_lies(other, whole))
                self.assertTrue(all(plain_lies(whole, own) for own in both))
                self.assertEqual(lies_in(form, other), whole == other)

    def test_odds(self):
        for form in FORMS:
            for other in FORMS:
                rows, own = plain_spots(form), plain_spots(other)
                places = [place for place in rows if place in own and rows[place] and own[place]
                          and (rows[place][0], len(rows[place])) != (own[place][0], len(own[place]))]
                self.assertEqual(odds_of(form, other), min(places) if places else None)

    def test_meet(self):
        for form in FORMS:
            for other in FORMS:
                whole = met_form(form, other)
                self.assertTrue(plain_lies(whole, form) and plain_lies(whole, other))
                for own in FORMS:
                    if plain_lies(own, form) and plain_lies(own, other):
                        self.assertTrue(plain_lies(own, whole))
                self.assertEqual(lies_in(form, other), whole == form)

    def test_several(self):
        some = [form for form in forms_of((("a", 0), ("b", 0), ("f", 2)), 3)]
        for one in some:
            for two in some:
                for three in some:
                    parts = (one, two, three)
                    agreed = do_agree(one, two) and do_agree(two, three) and do_agree(one, three)
                    if not agreed:
                        self.assertRaises(CanNot, joined_all, parts)
                        continue
                    whole = joined_all(parts)
                    self.assertTrue(all(plain_lies(part, whole) for part in parts))
                    for own in some:
                        if all(plain_lies(part, own) for part in parts):
                            self.assertTrue(plain_lies(whole, own))

    def test_joined_all_of_none(self):
        self.assertEqual(joined_all(()), ())
        self.assertEqual(joined_all((LEFT,)), LEFT)


if __name__ == "__main__":
    unittest.main()
