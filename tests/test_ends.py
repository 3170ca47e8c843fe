"""[8]: what can still become of a FORM."""

import unittest

from notinvain.blots import blot
from notinvain.ends import can_become, can_meet, common_end, is_end_of, made_end, made_into, parting_place
from notinvain.errors import CanNot
from notinvain.runs import is_ended, is_run, led
from tests.small import A, B, C, END, FEW_SIGNS, forms_of, plain_agree, plain_blot, plain_ended, plain_lies
from tests.small import plain_put, plain_spots, reached, sides_of

BOTH, RIGHT = (("f", ("a",), ("b",)),), (("f", (), ("b",)),)
HALF = ("g", ("f", ("a",), ()), ())
MARK, STOP = ("mark",), ("stop",)
SOME = sides_of(FEW_SIGNS, 3, 2)
FORMS = forms_of(FEW_SIGNS, 4)
WITH_MARK = forms_of((("a", 0), ("f", 2), ("g", 1), ("mark", 0)), 4)
DIRTY = ((("f", (), ("f", (), A)),), (("f", ("g", A)), ("f", ("g", ("g", ()))), ("g", ())),
         (("f", A, B), ("f", B, A), ("g", ("f", (), ()))), (("f", ("f", A, ()), A), ("g", ("g", A))))


def closed(form, name):
    """form with name in the place of each OPEN."""
    for place, part in plain_spots(form).items():
        if part == ():
            form = plain_put(form, place, (name,))
    return form


class Examples(unittest.TestCase):

    def test_made(self):
        self.assertEqual(led(BOTH, HALF, made_end(BOTH, HALF, "stop")), ("g", ("stop",), ("stop",)))
        form = ("f", ("c",), ())
        self.assertEqual(led(RIGHT, form, made_into(RIGHT, form, ("d", ()))), ("d", ()))

    def test_can_become(self):
        self.assertIs(can_become(BOTH, HALF, ("g", ("c",), ())), True)
        self.assertIs(can_become(BOTH, ("f", ("c",), ()), ("f", ("d",), ())), False)

    def test_can_meet(self):
        self.assertIs(can_meet(BOTH, ("g", ("a",), ()), ("g", (), ("b",))), True)
        self.assertEqual(common_end(BOTH, (("g", ("a",), ()), ("g", (), ("b",)), HALF)), ("g", ("a",), ("b",)))

    def test_parting(self):
        self.assertEqual(parting_place(BOTH, ("g", (), ("a",)), ("g", ("c",), ("b",))), (1,))
        self.assertIsNone(parting_place(BOTH, HALF, ("g", ("c",), ())))

    def test_is_end_of(self):
        self.assertIs(is_end_of(BOTH, HALF, ("g", ("c",), ("c",))), True)
        self.assertIs(is_end_of(BOTH, HALF, ("g", ("f", ("a",), ("b",)), ("c",))), False)

    def test_cannot(self):
        self.assertRaises(CanNot, made_into, BOTH, ("g", ("c",)), ("g", ("d",)))


class Becoming(unittest.TestCase):

    def check_run(self, sides, form, wish):
        """That made_into tells a RUN with all the properties that the document names."""
        run = made_into(sides, form, wish)
        self.assertIs(is_run(sides, form, run), True)
        self.assertEqual(led(sides, form, run), wish)
        left = plain_blot(sides, form)
        opens = sorted(place for place, part in plain_spots(left).items() if part == ())
        own = plain_spots(form)
        rest = list(run)
        for place in opens:
            some = []
            while rest and rest[0][0][:len(place)] == place:
                some.append(rest.pop(0))
            self.assertTrue(some)
            self.assertEqual(some[-1], (place, plain_spots(wish)[place]))
            self.assertNotIn(place, [call[0] for call in some[:-1]])
            for at, answer in some[:-1]:
                self.assertNotIn((), plain_spots(answer).values())
            for at, _ in some:
                self.assertEqual(plain_blot(sides, own[at]), ())
        self.assertEqual(rest, [])

    def test_all_pairs(self):
        for sides in SOME:
            for form in FORMS:
                for wish in FORMS:
                    good = plain_lies(plain_blot(sides, form), wish)
                    self.assertIs(can_become(sides, form, wish), good)
                    if not good:
                        self.assertRaises(CanNot, made_into, sides, form, wish)
                for wish in FORMS[::4]:
                    if can_become(sides, form, wish):
                        self.check_run(sides, form, wish)

    def test_greater_sides(self):
        for sides in sides_of(FEW_SIGNS, 4, 1) + list(DIRTY):
            for form in forms_of(FEW_SIGNS + (("b", 0),), 5):
                for wish in ((), closed(plain_blot(sides, form), "c"), closed(plain_blot(sides, form), "mark")):
                    if can_become(sides, form, wish):
                        self.check_run(sides, form, wish)

    def test_calls_below_calls(self):
        sides = (("f", ("g", ("h", ()))), ("g", ("k", A, ())), ("k", ("h", B), ()))
        form = ("f", ("g", ("k", ("h", ()), C)))
        self.check_run(sides, form, ("d", (), ()))
        run = made_into(sides, form, ("d", (), ()))
        self.assertEqual([place for place, _ in run], [(0, 0, 0, 0), (0, 0), (0,), ()])

    def test_marks(self):
        for sides in SOME:
            for form in WITH_MARK:
                left = plain_blot(sides, form)
                self.assertIs(can_become(sides, form, left), True)
                if MARK in plain_spots(left).values():
                    self.assertIs(can_become(sides, form, A), False)
                self.check_run(sides, form, closed(left, "end"))

    def test_runs_lead_nowhere_else(self):
        answers = forms_of(FEW_SIGNS, 3)
        for sides in SOME + list(DIRTY):
            for form in answers:
                left = plain_blot(sides, form)
                for other in reached(sides, form, answers, 5):
                    self.assertTrue(plain_lies(left, other))

    def test_runs_of_larger_forms(self):
        for sides in SOME[::4] + list(DIRTY):
            for form in FORMS[-14:]:
                left = plain_blot(sides, form)
                for other in reached(sides, form, ((), A, ("g", A), ("f", A, ())), 6):
                    self.assertTrue(plain_lies(left, other))

    def test_open_and_ended(self):
        for sides in ((), BOTH, RIGHT):
            for wish in FORMS:
                self.assertEqual(made_into(sides, (), wish), (((), wish),))
            self.assertEqual(made_into(sides, A, A), ())
            self.assertIs(can_become(sides, A, ()), False)
            self.assertRaises(CanNot, made_into, sides, A, ())
        self.assertEqual(made_end((), ("g", (), A), "end"), (((0,), END),))

    def test_made_end(self):
        for sides in SOME + list(DIRTY):
            for form in FORMS:
                for name in ("end", "stop"):
                    wish = closed(plain_blot(sides, form), name)
                    run = made_end(sides, form, name)
                    self.assertEqual(run, made_into(sides, form, wish))
                    self.assertEqual(led(sides, form, run), wish)
                    self.assertIs(is_ended(sides, wish), True)


class Ends(unittest.TestCase):

    def test_as_runs_reach_them(self):
        answers = forms_of((("a", 0), ("g", 1), ("end", 0)), 2)
        for sides in SOME:
            for form in FORMS[:10]:
                rows = reached(sides, form, answers, 4)
                for other in rows:
                    self.assertIs(is_end_of(sides, form, other), plain_ended(sides, other))

    def test_as_the_words_say(self):
        for sides in SOME:
            for form in FORMS:
                left = plain_blot(sides, form)
                for other in FORMS:
                    good = plain_ended(sides, other) and plain_lies(left, other)
                    self.assertIs(is_end_of(sides, form, other), good)

    def test_what_all_ends_have_in_common(self):
        for sides in SOME:
            for form in FORMS:
                left = plain_blot(sides, form)
                self.assertIs(is_end_of(sides, form, closed(left, "end")), True)
                self.assertIs(is_end_of(sides, form, closed(left, "stop")), True)
                self.assertEqual(left == (), all(can_become(sides, form, wish) for wish in ((), A, B)))

    def test_marks_are_ended(self):
        self.assertIs(is_end_of(BOTH, MARK, MARK), True)
        self.assertIs(is_end_of(BOTH, ("f", MARK, ()), ("f", MARK, A)), True)
        self.assertIs(is_end_of(BOTH, ("f", MARK, ()), A), False)


class Meeting(unittest.TestCase):

    def test_all_pairs(self):
        for sides in SOME:
            ends = [form for form in FORMS if plain_ended(sides, form)]
            own = {form: blot(sides, form) for form in FORMS}
            for form in FORMS:
                for other in FORMS:
                    good = plain_agree(own[form], own[other])
                    self.assertIs(can_meet(sides, form, other), good)
                    self.assertEqual(parting_place(sides, form, other) is None, good)
                    if good:
                        end = common_end(sides, (form, other))
                        self.assertIs(is_end_of(sides, form, end) and is_end_of(sides, other, end), True)
                    else:
                        self.assertRaises(CanNot, common_end, sides, (form, other))
                        for end in ends:
                            self.assertFalse(plain_lies(own[form], end) and plain_lies(own[other], end))

    def test_parting_place(self):
        for sides in SOME:
            for form in FORMS:
                for other in FORMS:
                    rows, more = plain_spots(plain_blot(sides, form)), plain_spots(plain_blot(sides, other))
                    odds = [place for place in rows if rows[place] and more.get(place)
                            and (rows[place][0], len(rows[place])) != (more[place][0], len(more[place]))]
                    self.assertEqual(parting_place(sides, form, other), min(odds) if odds else None)

    def test_several(self):
        for sides in SOME[::3]:
            for one in FORMS[::2]:
                for two in FORMS[1::2]:
                    for three in (("f", A, ()), ("g", ("g", ())), (), ("f", ("g", ()), MARK)):
                        parts = (one, two, three)
                        if all(can_meet(sides, own, other) for own in parts for other in parts):
                            end = common_end(sides, parts)
                            self.assertTrue(all(is_end_of(sides, own, end) for own in parts))
                            self.assertEqual(end, self.least_end(sides, parts))
                        else:
                            self.assertRaises(CanNot, common_end, sides, parts)

    def least_end(self, sides, parts):
        """The BLOTS of parts put over one another, ("end",) in the place of each OPEN."""
        whole = {}
        for part in parts:
            for place, own in plain_spots(plain_blot(sides, part)).items():
                whole[place] = (own[0], len(own) - 1) if own else whole.get(place)
        return self.built(whole, ())

    def built(self, whole, place):
        if not whole[place]:
            return END
        name, many = whole[place]
        return (name,) + tuple(self.built(whole, place + (k,)) for k in range(many))

    def test_of_one(self):
        self.assertEqual(common_end(BOTH, (HALF,)), ("g", END, END))
        self.assertEqual(common_end(BOTH, ((),)), END)
        self.assertEqual(common_end((), (A, A)), A)
        self.assertEqual(common_end(BOTH, (("g", MARK, ()), ("g", (), MARK))), ("g", MARK, MARK))
        self.assertEqual(parting_place(BOTH, MARK, A), ())
        self.assertIs(can_meet(BOTH, MARK, ()), True)

    def test_what_stands_in_the_blot(self):
        for sides in SOME:
            for form in FORMS:
                own = plain_spots(form)
                for place, part in plain_spots(blot(sides, form)).items():
                    self.assertEqual(blot(sides, own[place]), part)


if __name__ == "__main__":
    unittest.main()
