"""[12]: always, or a least FORM that lacks."""

import itertools
import unittest

from notinvain.always import always_needs, how_many, is_struck, is_verdict, lacking_signs, lacks, least_form, nest
from notinvain.always import nest_lot, verdict
from notinvain.books import is_book, is_plain
from notinvain.errors import CanNot, TooMany
from notinvain.lots import bars, least_barring, width
from notinvain.rows import closed_table
from tests.small import A, B, END, FEW_SIGNS, MARK, forms_of, more_things, odd_things, plain_blot, plain_due
from tests.small import plain_marked, plain_needed, plain_put, plain_signs, plain_spots, plain_tasks, sides_of
from tests.test_rows import BOOKS, CHAIN, DEEP, JUST, OVER, RIGHT, THREE, WIDE

def plain_lacks(book, form):
    """Whether form lacks."""
    return not plain_due(book, form) and () in plain_spots(form).values() and not plain_needed(book, form)


BOTH = (("f", A, B),)
# Of f, g, h, a with unlike sets of SIDES: some that lack, some nested.
LACKING = [THREE, THREE + (("g", A),), THREE + (("h", B), ("k", ("h", A))), THREE + (("k", ("f", A, A, A)),),
           THREE + (("h",), ("k", ()))]
MORE = [sides for sides in sides_of((("a", 0), ("b", 0), ("f", 2)), 3, 3) if is_book(sides)]
FLAT = [("f",) + parts for parts in itertools.product(((), A, B), repeat=3)]
WIDE_BOOKS = [sides for sides in itertools.combinations(sorted(FLAT), 3) if is_book(sides)]
FREE = [sides for sides in WIDE_BOOKS if plain_lacks(sides, WIDE)]


def own_signs(book):
    """The SIGNS of the FORMS of book."""
    return sorted(plain_signs(book) | {("end", 0)})


def plain_nest(form, depth):
    """The nest of form."""
    if depth == 0:
        return ()
    for place in [place for place, part in plain_spots(form).items() if part == ()]:
        form = plain_put(form, place, ("inner",))
    whole = plain_nest_of(form, depth)
    return whole


def plain_nest_of(form, depth):
    inner = () if depth == 1 else plain_nest_of(form, depth - 1)
    out = form
    for place in [place for place, part in plain_spots(form).items() if part == ("inner",)]:
        out = plain_put(out, place, inner)
    return out


class Examples(unittest.TestCase):

    def test_least_form(self):
        self.assertEqual((always_needs(THREE), least_form(THREE), least_form(DEEP), lacking_signs(THREE),
                          lacks(THREE, ("f", (), (), B))), (False, ("f", (), (), ()), None, (("f", 3),), False))

    def test_verdict(self):
        self.assertEqual(verdict(THREE), ("lacks", ("f", (), (), ())))
        self.assertIs(is_verdict(THREE, ("lacks", ("f", ("a",), ("end",), ("f", (), (), ())))), True)
        self.assertIs(is_verdict(THREE, ("lacks", ())), False)

    def test_how_many(self):
        self.assertEqual((how_many(BOTH, 1), how_many(BOTH, 2), how_many(BOTH, 3)), ((4, 1, 0), (0, 0, 0), (15, 3, 0)))

    def test_nest(self):
        self.assertEqual(nest(("f", (), A), 2), ("f", ("f", (), A), A))
        self.assertEqual(nest(("g", ()), 0), ())
        self.assertEqual(nest_lot(THREE, WIDE, 2), (((0, 0), (0, 1), (1, 0), (1, 1))))
        self.assertIs(is_struck(THREE, nest(WIDE, 2)), True)


class Lacking(unittest.TestCase):

    def test_lacks_and_is_struck(self):
        for book in BOOKS + LACKING[:3]:
            for form in forms_of(FEW_SIGNS, 5) if book in BOOKS else forms_of((("a", 0), ("b", 0), ("f", 3)), 7)[::5]:
                self.assertIs(lacks(book, form), plain_lacks(book, form))
                self.assertIs(is_struck(book, form), not plain_due(book, form) and plain_blot(book, form) == ())

    def test_least_form_beside_a_search(self):
        for book in BOOKS[::2] + MORE[::8] + LACKING[:4] + WIDE_BOOKS[::90] + FREE[::2] + [RIGHT, DEEP, CHAIN]:
            most = {1: 8, 2: 6, 3: 7}.get(max([many for _, many in own_signs(book)]), 4)
            found = [form for form in forms_of(own_signs(book), most) if plain_lacks(book, form)]
            least = least_form(book)
            self.assertIs(always_needs(book), least is None)
            if found:
                self.assertEqual(least, min((len(plain_spots(form)), form) for form in found)[1])
            elif least is not None:
                self.assertGreater(len(plain_spots(least)), most)
            if least is not None:
                self.assertIs(plain_lacks(book, least), True)
                self.assertEqual(plain_blot(book, least), ())
                self.assertGreaterEqual(list(plain_spots(least).values()).count(()), 3)
                self.assertTrue({(part[0], len(part) - 1) for part in plain_spots(least).values() if part}
                                <= set(own_signs(book)))

    def test_fewest_places_also_beside_other_signs(self):
        for book in (THREE, LACKING[2], FREE[0]):
            least = least_form(book)
            if least is not None:
                size = len(plain_spots(least))
                for form in forms_of(own_signs(book) + [("z", 1)], size - 1):
                    self.assertIs(plain_lacks(book, form), False)

    def test_as_the_table_tells(self):
        for book in BOOKS + MORE + LACKING + [JUST]:
            rows = [row for row, _ in closed_table(book) if row[0] > 0 and row[3] == ()]
            self.assertIs(always_needs(book), not rows)

    def test_some_lack_and_some_do_not(self):
        told = [always_needs(book) for book in LACKING]
        self.assertEqual(told, [False, False, False, False, False])
        self.assertTrue(all(always_needs(book) for book in (RIGHT, DEEP, BOTH, CHAIN, ())))

    def test_lacking_signs(self):
        for book in BOOKS + MORE[::4] + LACKING:
            firsts = sorted({(side[0], len(side) - 1) for side in book})
            own = [sign for sign in firsts
                   if not always_needs(tuple(side for side in book if (side[0], len(side) - 1) == sign))]
            self.assertEqual(lacking_signs(book), tuple(own))
            if is_plain(book):
                self.assertIs(always_needs(book), not own)

    def test_two_lacking_signs(self):
        two = THREE + tuple(("k",) + side[1:] for side in THREE)
        self.assertEqual(lacking_signs(two), (("f", 3), ("k", 3)))

    def test_put_at_the_open_places(self):
        for book in (THREE, RIGHT, BOTH, DEEP):
            forms = [form for form in forms_of(own_signs(book), 4) if is_struck(book, form)][:12] + [WIDE]
            forms = [form for form in forms if is_struck(book, form)]
            for one, two in itertools.product(forms, repeat=2):
                whole = one
                for place in plain_tasks(book, one):
                    whole = plain_put(whole, place, two)
                self.assertIs(is_struck(book, whole), True)
                if lacks(book, one):
                    self.assertIs(lacks(book, whole), True)

    def test_too_many(self):
        for deed in (always_needs, least_form, verdict, lambda book: how_many(book, 1)):
            self.assertRaises(TooMany, deed, OVER)
        self.assertIs(lacks(OVER, ()), False)
        self.assertIs(is_struck(OVER, ()), True)
        self.assertIs(is_verdict(OVER, ("lacks", ())), False)
        self.assertIs(is_verdict(OVER, ("always", ())), False)
        self.assertRaises(TooMany, lacking_signs, OVER)
        # Each of the two SIGNS alone is within the bounds, though both together are not.
        two = JUST[:3] + (("k", A, B), ("k", B, ()))
        self.assertIs(is_book(two), True)
        self.assertEqual(lacking_signs(two), ())


class Verdicts(unittest.TestCase):

    def test_own(self):
        for book in BOOKS + MORE[::4] + LACKING:
            told = verdict(book)
            if always_needs(book):
                self.assertEqual(told, ("always", closed_table(book)))
            else:
                self.assertEqual(told, ("lacks", least_form(book)))
            self.assertIs(is_verdict(book, told), True)
            self.assertIs(is_verdict(book, (told[0], told[0])), False)
            other = ("always", closed_table(book)) if told[0] == "lacks" else ("lacks", ())
            self.assertIs(is_verdict(book, other), False)

    def test_each_form(self):
        for book in (THREE, RIGHT):
            for form in forms_of((("a", 0), ("b", 0), ("f", 3)), 7)[::5] + [WIDE, ("z", WIDE), ("z", WIDE, ())]:
                self.assertIs(is_verdict(book, ("lacks", form)), plain_lacks(book, form))

    def test_no_mark(self):
        book = THREE + (("k", (), A),)
        self.assertIs(is_verdict(book, ("lacks", ("f", ("k", END, ()), (), ()))), True)
        self.assertIs(is_verdict(book, ("lacks", ("f", ("k", MARK, ()), (), ()))), False)

    def test_spoiled(self):
        told = verdict(DEEP)
        for thing in (list(told), ("lacks", told[1]), ("Always", told[1]), ("", told[1]), (None, told[1]), told[:1],
                      told + ((),), (told[1], told[0]), told[1], (told[0], list(told[1])), (told[0], told[1][1:]),
                      (told[0], told[1][::-1]), (told[0], told), ("always", ()), ("always", None), ()):
            self.assertIs(is_verdict(DEEP, thing), False, thing)
        for thing in (["lacks", WIDE], ("lacks", list(WIDE)), ("lack", WIDE), ("lacks", WIDE, ()), ("lacks",),
                      ("lacks", ("f", (), ())), ("lacks", ("f", [], (), ())), ("lacks", ("f", (), (), MARK)),
                      ("lacks", ("F", (), (), ())), (True, WIDE), ("always", WIDE), ("lacks", None), ("lacks", 0)):
            self.assertIs(is_verdict(THREE, thing), False, thing)
        for thing in odd_things() + more_things():
            for own in (thing, ("always", thing), ("lacks", thing), (thing, WIDE), (thing, told[1])):
                self.assertIs(is_verdict(THREE, own), False, own)
                self.assertIs(is_verdict(DEEP, own), False, own)


class HowMany(unittest.TestCase):

    def test_beside_a_search(self):
        for book in BOOKS[1::2] + MORE[::8] + LACKING:
            most = {1: 8, 2: 6, 3: 7}.get(max([many for _, many in own_signs(book)]), 4)
            by_size = {size: [0, 0, 0] for size in range(most + 1)}
            for form in forms_of(own_signs(book), most):
                if not plain_due(book, form):
                    own = by_size[len(plain_spots(form))]
                    own[0] += 1
                    own[1] += plain_blot(book, form) == ()
                    own[2] += plain_lacks(book, form)
            for size in by_size:
                self.assertEqual(how_many(book, size), tuple(by_size[size]), (book, size))

    def test_bound(self):
        self.assertEqual(how_many(THREE, 0), (0, 0, 0))
        told = how_many(THREE, 10)
        self.assertGreater(told[0], told[1])
        self.assertGreater(told[1], told[2])
        self.assertGreater(told[2], 0)
        self.assertEqual(how_many((), 10), (0, 0, 0))
        self.assertEqual(how_many((), 1), (2, 1, 0))
        self.assertGreater(how_many(JUST, 10)[2] + how_many(JUST, 9)[0], 10 ** 4)
        for size in (11, 12, 10 ** 6):
            self.assertRaises(TooMany, how_many, THREE, size)
            self.assertRaises(TooMany, how_many, (), size)


class Nests(unittest.TestCase):

    def test_nest(self):
        for form in forms_of((("a", 0), ("f", 2), ("g", 1)), 5):
            for depth in range(4):
                self.assertEqual(nest(form, depth), plain_nest(form, depth))

    def test_bound(self):
        long = ("g", ())
        self.assertEqual(len(list(nest_places(nest(long, 299)))), 300)
        self.assertRaises(TooMany, nest, long, 300)
        self.assertRaises(TooMany, nest, long, 10 ** 6)
        two = ("f", (), A, ("g", B))
        self.assertEqual(len(list(nest_places(nest(two, 74)))), 297)
        self.assertRaises(TooMany, nest, two, 75)
        wide = ("f", (), ())
        self.assertEqual(len(list(nest_places(nest(wide, 7)))), 255)
        self.assertRaises(TooMany, nest, wide, 8)
        for form in ((), A, ("f", A, B)):
            self.assertEqual(nest(form, 10 ** 6), form)
            self.assertEqual(nest(form, 0), ())

    def test_nest_lot(self):
        for book in LACKING[:3] + [RIGHT, BOTH, DEEP, CHAIN] + BOOKS[::3] + FREE[::3]:
            forms = forms_of(own_signs(book), 4)
            forms = [form for form in forms if is_struck(book, form)][:25]
            more = [WIDE, ("f", (), WIDE, ()), ("f", WIDE, (), ()), ("f", ("h", ())), ("g", WIDE)]
            for form in forms + [form for form in more if is_struck(book, form)]:
                lots = least_barring(book, form)
                least = min(lots, key=lambda lot: (len(lot), lot))
                for depth in range(4):
                    if len(list(nest_places(nest(form, depth)))) > 60:
                        continue
                    own = sorted(sum(row, ()) for row in itertools.product(least, repeat=depth))
                    self.assertEqual(nest_lot(book, form, depth), tuple(own))
                    whole = nest(form, depth)
                    self.assertTrue(all(plain_spots(whole)[place] == () for place in own))
                    self.assertEqual(len(own), width(book, form) ** depth)
                    if is_plain(book):
                        self.assertIs(MARK in plain_spots(plain_blot(book, plain_marked(whole, own))).values(), True)
                        self.assertIs(bars(book, whole, own), True)
                        if len(plain_tasks(book, whole)) <= 10:
                            self.assertEqual(width(book, whole), len(own))
                    elif len(plain_tasks(book, whole)) <= 8:
                        self.assertGreaterEqual(width(book, whole), len(own))

    def test_the_fewest_tasks_count_ahead_of_the_least(self):
        form = ("f", WIDE, (), ())
        self.assertEqual(least_barring(THREE, form)[0], ((0, 0), (0, 1), (1,)))
        self.assertEqual(nest_lot(THREE, form, 1), ((1,), (2,)))

    def test_errors(self):
        for form in (A, ("f", A, B, ()), ("f", A, A, A), ("f", END, END, ()), ("z", WIDE)):
            self.assertRaises(CanNot, nest_lot, THREE, form, 10 ** 6)
        wide = ("f", WIDE, WIDE, ("f", (), WIDE, ()))
        self.assertIs(is_struck(THREE, wide), True)
        self.assertRaises(TooMany, nest_lot, THREE, wide, 0)
        self.assertEqual(nest_lot(THREE, WIDE, 0), ((),))
        self.assertEqual(len(nest_lot(THREE, WIDE, 4)), 16)
        self.assertRaises(TooMany, nest_lot, THREE, WIDE, 5)
        self.assertEqual(nest_lot(THREE, (), 10 ** 6), ((),))
        self.assertEqual(nest_lot(CHAIN, ("f", ()), 0), ((),))
        self.assertEqual(nest_lot(CHAIN, ("f", ()), 299), ((0,) * 299,))
        self.assertRaises(TooMany, nest_lot, CHAIN, ("f", ()), 300)
        self.assertRaises(CanNot, nest_lot, CHAIN, ("h", ()), 0)


def nest_places(form):
    """The FORMS that stand in form, without functions that call themselves."""
    waiting = [form]
    while waiting:
        part = waiting.pop()
        yield part
        waiting.extend(part[1:])


if __name__ == "__main__":
    unittest.main()
