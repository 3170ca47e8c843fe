"""[11]: what a FORM shows to what is above it."""

import itertools
import unittest

from notinvain.books import is_book
from notinvain.errors import CanNot, TooMany
from notinvain.rows import alike_sets, are_alike, closed_table, does_part, is_closed, parting, row_of, row_over
from tests.small import A, B, C, END, FEW_SIGNS, MARK, forms_of, more_things, odd_things, plain_agree, plain_blot
from tests.small import plain_due, plain_lies, plain_marked, plain_needed, plain_put, plain_signs, plain_spots
from tests.small import sides_of

THREE = (("f", (), ("a",), ("b",)), ("f", ("a",), ("b",), ()), ("f", ("b",), (), ("a",)))
DEEP, CHAIN, RIGHT = (("f", ("g", ()), ("a",)),), (("f", ("c",)), ("h", ())), (("f", (), ("b",)),)
WIDE = ("f", (), (), ())
BOOKS = [sides for sides in sides_of(FEW_SIGNS, 4, 1) + sides_of(FEW_SIGNS, 3, 2) if is_book(sides)]
BOOKS += [DEEP, CHAIN, RIGHT, (("f", ("g", ()), ("g", A)),), (("f", A, ()), ("f", B, A), ("g", B))]
FORMS = forms_of(FEW_SIGNS, 5)
# With one SIGN of two parts, the sum of [11] is 600, 578, 627 and 601.
EXACT = (("g", ("f", (), ("f", ("f", (), ("f", (), ())), ()))),)
JUST, OVER = (
    (("f", A, ("f", B, B)), ("f", A, ("f", ("f", B, A), A)), ("f", A, ("f", ("f", ("f", A, A), A), B)),
     ("f", B, ("f", B, B)), ("f", B, ("f", B, ("f", A, ("f", A, B)))), ("f", ("f", ("f", B, A), ("f", B, B)), B)),
    (("f", A, ("f", A, A)), ("f", A, ("f", ("f", B, A), A)), ("f", A, ("f", ("f", ("f", A, A), A), B)),
     ("f", B, ("f", B, ("f", A, ("f", A, B)))), ("f", B, ("f", ("f", B, B), A))))
OVER_BY_ONE = (("f", A, ("g", ("f", ("g", ()), A))), ("f", ("f", A, A), ("g", ("g", A))), ("f", ("f", ("g", ("g", A)), ()), A))


def plain_parts(book):
    """The PARTS of book."""
    return sorted({part for side in book for place, part in plain_spots(side).items() if place != () and part != ()})


def plain_row(book, form):
    """The ROW of form; None if it is not standing."""
    if plain_due(book, form):
        return None
    parts, blot = plain_parts(book), plain_blot(book, form)
    opened = 0 if () not in plain_spots(form).values() else 2 if blot == () else 1
    fits = tuple(number for number, part in enumerate(parts) if plain_lies(part, form))
    agrees = tuple(number for number, part in enumerate(parts) if plain_agree(part, blot))
    sets = set()
    for place in plain_needed(book, form):
        left = plain_blot(book, plain_marked(form, (place,)))
        sets.add(tuple(number for number, part in enumerate(parts) if plain_agree(part, left)))
    lots = tuple(sorted(own for own in sets if not any(set(other) < set(own) for other in sets)))
    return (opened, fits, agrees, lots)


def own_signs(book):
    """The SIGNS of the FORMS of book."""
    return sorted(plain_signs(book) | {("end", 0)})


def plain_parts_them(book, one, other, form, place):
    """Whether the SURROUNDING (form, place) parts two standing FORMS."""
    wholes = [plain_put(form, place, own) for own in (one, other)]
    due = [bool(plain_due(book, whole)) for whole in wholes]
    if any(due):
        return due[0] != due[1]
    struck = [plain_blot(book, whole) == () for whole in wholes]
    needed = [any(task[:len(place)] == place for task in plain_needed(book, whole)) for whole in wholes]
    return struck[0] != struck[1] or needed[0] != needed[1]


class Examples(unittest.TestCase):

    def test_row_of(self):
        self.assertEqual((row_of(THREE, ()), row_of(THREE, WIDE), row_of(THREE, ("f", (), (), B))),
                         ((2, (), (0, 1), ((),)), (2, (), (0, 1), ()), (2, (), (0, 1), ((),))))

    def test_closed_table(self):
        self.assertEqual(([own[0] for own in closed_table(THREE)][:5], len(closed_table(THREE))),
                         ([(0, (), (), ()), (0, (0,), (0,), ()), (0, (1,), (1,), ()), (1, (), (), ()),
                           (1, (), (), ((),))], 7))
        self.assertEqual((closed_table(THREE)[3][1], closed_table(THREE)[4][1], alike_sets(THREE)),
                         (("f", ("a",), ("end",), ("f", (), (), ())), ("f", (), ("a",), ("end",)),
                          ((0, 3), (1,), (2,), (4,), (5,), (6,))))

    def test_deep(self):
        self.assertEqual(row_of(DEEP, ("g", ())), (1, (1,), (1,), ((1,),)))
        self.assertIsNone(row_over(DEEP, "f", (row_of(DEEP, ("g", ())), row_of(DEEP, A))))

    def test_alike(self):
        self.assertIs(are_alike((("f", ("a",)), ("f", ("b",))), ("a",), ("b",)), True)
        self.assertIs(does_part(THREE, A, B, (("f", (), ("b",), ()), (0,))), True)


class Rows(unittest.TestCase):

    def test_row_of(self):
        for book in BOOKS:
            for form in FORMS:
                row = plain_row(book, form)
                if row is None:
                    self.assertRaises(CanNot, row_of, book, form)
                else:
                    self.assertEqual(row_of(book, form), row)
        for form in forms_of((("a", 0), ("b", 0), ("f", 3)), 7)[::3]:
            if not plain_due(THREE, form):
                self.assertEqual(row_of(THREE, form), plain_row(THREE, form))

    def test_row_over(self):
        for book in BOOKS[::2] + [THREE]:
            names = sorted({name for name, _ in own_signs(book)} | {"z"})
            forms = [form for form in forms_of(FEW_SIGNS, 3) + [B, ("z", ())] if not plain_due(book, form)]
            for many in range(3):
                for parts in itertools.product(forms, repeat=many):
                    for name in names:
                        own = row_over(book, name, tuple(plain_row(book, part) for part in parts))
                        self.assertEqual(own, plain_row(book, (name,) + parts))
        for parts in itertools.product([(), A, B, END, WIDE, ("f", A, (), ()), ("f", A, END, ())], repeat=3):
            own = row_over(THREE, "f", tuple(plain_row(THREE, part) for part in parts))
            self.assertEqual(own, plain_row(THREE, ("f",) + parts))

    def test_edges(self):
        self.assertEqual(row_of((), ()), (2, (), (), ((),)))
        self.assertEqual(row_of((), ("f", (), A)), (1, (), (), ((),)))
        self.assertEqual(row_of((), A), (0, (), (), ()))
        self.assertIsNone(row_over((A,), "a", ()))
        self.assertEqual(row_over((A,), "b", ()), (0, (), (), ()))

    def test_lots_ascend(self):
        book = (("f", ("k", (), (), A)), ("g", ("k", (), A, ())), ("h", ("k", A, (), B)))
        row = (1, (), (2, 3, 4), ((2, 4), (3,)))
        self.assertEqual(row_of(book, ("k", (), (), ())), row)
        self.assertEqual(plain_row(book, ("k", (), (), ())), row)
        self.assertEqual(row_over(book, "k", (row_of(book, ()),) * 3), row)

    def test_what_is_needed_in_a_part_may_be_needed_no_more(self):
        self.assertEqual(row_of(DEEP, ("f", ("g", ()), ())), (2, (), (0, 1), ((),)))
        self.assertEqual(plain_needed(DEEP, ("f", ("g", ()), ())), ((1,),))


class Tables(unittest.TestCase):

    def test_beside_a_search(self):
        for book in BOOKS + [THREE, CHAIN]:
            table, signs = dict(closed_table(book)), own_signs(book)
            most = {1: 9, 2: 6, 3: 7}.get(max(many for _, many in signs), 4)
            found = {}
            for form in forms_of(signs, most):
                row = plain_row(book, form)
                if row is not None:
                    own = (len(plain_spots(form)), form)
                    found[row] = min(own, found.get(row, own))
            for row, (_, form) in found.items():
                self.assertEqual(table.pop(row), form)
            self.assertTrue(all(len(plain_spots(form)) > most for form in table.values()))

    def test_closed_and_of_the_book(self):
        for book in BOOKS + [THREE, JUST]:
            table = closed_table(book)
            self.assertEqual(list(table), sorted(table))
            rows = [row for row, _ in table]
            self.assertEqual(len(set(rows)), len(rows))
            signs = own_signs(book)
            for row, form in table:
                self.assertEqual(plain_row(book, form), row)
                self.assertTrue({(part[0], len(part) - 1) for part in plain_spots(form).values() if part} <= set(signs))
            self.assertIn(row_of(book, ()), rows)
            self.assertIn(row_of(book, END), rows)
            self.assertIs(is_closed(book, table), True)
            for name, many in signs if book != JUST else ():
                for own in itertools.product(rows, repeat=many):
                    over = row_over(book, name, own)
                    self.assertTrue(over is None or over in rows)

    def test_no_sides(self):
        self.assertEqual(closed_table(()), (((0, (), (), ()), END), ((2, (), (), ((),)), ())))
        self.assertEqual(alike_sets(()), ((0,), (1,)))
        self.assertEqual(closed_table((A,)), closed_table(()))

    def test_bounds(self):
        self.assertEqual((len(closed_table(JUST)), len(closed_table(EXACT))), (24, 24))
        self.assertEqual(sum(len(own) for own in alike_sets(EXACT)), 24)
        self.assertIs(are_alike(EXACT, A, ("z", A)), True)
        self.assertEqual(sum(len(own) for own in alike_sets(JUST)), 24)
        self.assertIs(are_alike(JUST, A, ("z", A)), False)
        eight = (("f", (), A, B), ("f", A, ("f", C, C, A), ()))
        self.assertEqual(len(closed_table(eight)), 8)
        self.assertEqual(sum(len(own) for own in alike_sets(eight)), 8)
        for book in (OVER, OVER_BY_ONE, (("f", (), A, ("f", B, B, ())), ("f", A, B, C))):
            self.assertRaises(TooMany, closed_table, book)
            self.assertRaises(TooMany, alike_sets, book)
            self.assertRaises(TooMany, are_alike, book, A, A)
            self.assertRaises(TooMany, parting, book, A, B)
            for deed in (are_alike, parting):
                self.assertRaises(CanNot, deed, book, book[0], A)
                self.assertRaises(CanNot, deed, book, A, ("z", book[0]))
            self.assertIs(does_part(book, A, (), ((), ())), True)
            self.assertIs(is_closed(book, ()), False)
            self.assertEqual(row_of(book, A), plain_row(book, A))


class Closed(unittest.TestCase):

    def test_others_than_the_least(self):
        table = list(closed_table(THREE))
        table[0] = (table[0][0], ("f", END, END, END))
        self.assertIs(is_closed(THREE, tuple(table)), True)
        table[0] = (table[0][0], ("f", END, END, ("z",)))
        self.assertIs(is_closed(THREE, tuple(table)), False)
        table[0] = (table[0][0], A)
        self.assertIs(is_closed(THREE, tuple(table)), False)

    def test_each_row_is_wanted(self):
        for book in BOOKS[::3] + [THREE]:
            table = closed_table(book)
            for number in range(len(table)):
                self.assertIs(is_closed(book, table[:number] + table[number + 1:]), False)
                self.assertIs(is_closed(book, table[:number] + table[number:number + 1] + table[number:]), False)

    def test_closed_under_one_sign_of_no_parts(self):
        book = (("f", A, ()),)
        self.assertIs(is_closed(book, closed_table(book)), True)
        self.assertIs(is_closed((), (((2, (), (), ((),)), ()),)), False)
        self.assertIs(is_closed((), (((0, (), (), ()), END),)), False)

    def test_spoiled(self):
        table = closed_table(DEEP)
        self.assertIs(is_closed(DEEP, table), True)
        things = [list(table), table[::-1], (), (table,), None, 1, table + (((3, (), (), ()), A),), table + (1,)]
        for number, (row, form) in enumerate(table):
            for own in ([row, form], (list(row), form), (row, form, ()), (row,), (row, list(form)), (form, row),
                        (row, ("z", form)), (row, MARK), (row, row), (row, None), (None, form)):
                things.append(table[:number] + (own,) + table[number + 1:])
            for at, value in itertools.product(range(4), (None, (), 0, 1, True, (True,), ((),), (0,), ((True,),), [])):
                if value != row[at] or type(value) is not type(row[at]) or value is True:
                    things.append(table[:number] + ((row[:at] + (value,) + row[at + 1:], form),) + table[number + 1:])
        for number, (row, form) in enumerate(table):
            for old, new in ((0, False), (1, True), ((1,), (True,)), ((1,), [1])):
                own = tuple(new if part == old else part for part in row)
                if own != row or old in (0, 1, (1,)) and any(part == old for part in row):
                    things.append(table[:number] + ((own, form),) + table[number + 1:])
        # Each place in a ROW for itself: True equals 1.
        at = [row for row, _ in table].index((0, (1,), (1,), ()))
        for row in ((0, (True,), (1,), ()), (0, (1,), (True,), ()), (False, (1,), (1,), ()), (0, [1], (1,), ())):
            things.append(table[:at] + ((row, table[at][1]),) + table[at + 1:])
        things.append(table[:at] + ((table[at][0], ("f", ("g", ()), A)),) + table[at + 1:])
        for thing in things:
            self.assertIs(is_closed(DEEP, thing), False, thing)
        for thing in odd_things() + more_things():
            self.assertIs(is_closed(DEEP, thing), False, thing)
            self.assertIs(is_closed(DEEP, (thing,)), False, thing)
            self.assertIs(is_closed(DEEP, table + (thing,)), False, thing)
            self.assertIs(is_closed(DEEP, table + ((thing, thing),)), False, thing)


def surroundings(signs, most):
    """All SURROUNDINGS with these SIGNS and at most so many PLACES."""
    return [(form, place) for form in forms_of(signs, most)
            for place, part in plain_spots(form).items() if part == ()]


class Alike(unittest.TestCase):

    def check(self, book, pairs, signs, most):
        rows = surroundings(signs, most)
        for one, other in pairs:
            size = None
            for form, place in rows:
                parts = plain_parts_them(book, one, other, form, place)
                if parts and size is None:
                    size = len(plain_spots(form))
                    break
            own = parting(book, one, other)
            self.assertIs(are_alike(book, one, other), own is None)
            if own is None:
                self.assertIsNone(size)
                continue
            form, place = own
            self.assertEqual(plain_spots(form)[place], ())
            self.assertTrue(plain_parts_them(book, one, other, form, place))
            self.assertIs(does_part(book, one, other, own), True)
            if size is None:
                self.assertGreater(len(plain_spots(form)), most)
            else:
                self.assertEqual(len(plain_spots(form)), size)

    def test_small(self):
        for book in BOOKS[::2] + [DEEP, RIGHT]:
            forms = [form for form in forms_of(FEW_SIGNS, 3) + [B, ("z", ())] if not plain_due(book, form)]
            self.check(book, list(itertools.combinations(forms, 2))[::3], own_signs(book), 4)

    def test_rows(self):
        for book in BOOKS + [CHAIN]:
            forms = [form for _, form in closed_table(book)]
            signs = [sign for sign in own_signs(book)] + [("z", 1)]
            self.check(book, [pair for pair in itertools.combinations(forms, 2)][::4], signs, 4)

    def test_three(self):
        forms = [form for _, form in closed_table(THREE)] + [("z", WIDE), C, ("f", A, B, C)][:2]
        self.check(THREE, list(itertools.combinations(forms, 2)), own_signs(THREE), 5)

    def test_parted_from_further_off(self):
        g, h = ("g", ()), ("h", ())
        rows = [((A, ("f", ("f", g, ()), h)), ("f", (), END), ("f", g, ()), 5),
                ((A, ("f", (), ("f", (), ("f", h, g)))), ("f", (), END), h, 4),
                ((("f", ("h", g), ("g", A)),), h, ("h", g), 5),
                ((("f", (), ("f", ("f", A, A), ("f", (), A))),), ("f", END, A), ("f", A, A), 5),
                ((("f", B, ()), ("f", ("f", ("k", (), B), A), ())), END, A, 4),
                ((A, ("k", B, B), ("k", ("f", ("f", B, ()), ("f", B, ())), ())), ("f", (), B), ("f", B, ()), 5),
                ((B, ("f", (), ("f", g, ("g", g)))), g, ("g", g), 5),
                ((B, ("f", (), ("f", g, ("g", g)))), ("g", ("f", (), END)), ("z", ()), 4),
                ((A, ("f", B, B), ("k", ("k", (), B), ("k", B, ()))), (), ("k", (), ()), 5)]
        for book, one, other, most in rows:
            self.assertIs(is_book(book), True)
            self.check(book, [(one, other), (other, one)], [sign for sign in own_signs(book) if sign != ("end", 0)], most)
            self.check(book, list(itertools.combinations([form for _, form in closed_table(book)], 2))[::5], own_signs(book), 3)

    def test_equal_rows_are_alike(self):
        for book in BOOKS[::2]:
            by_row = {}
            for form in FORMS:
                if not plain_due(book, form):
                    by_row.setdefault(row_of(book, form), []).append(form)
            for forms in by_row.values():
                self.assertIs(are_alike(book, forms[0], forms[-1]), True)
                self.assertIsNone(parting(book, forms[0], forms[-1]))

    def test_sets(self):
        for book in BOOKS + [THREE]:
            table, sets = closed_table(book), alike_sets(book)
            self.assertEqual(list(sets), sorted(sets))
            self.assertEqual(sorted(number for own in sets for number in own), list(range(len(table))))
            self.assertTrue(all(list(own) == sorted(own) for own in sets))
            home = {number: own for own in sets for number in own}
            for one, other in itertools.combinations(range(len(table)), 2):
                self.assertIs(are_alike(book, table[one][1], table[other][1]), home[one] == home[other])

    def test_more_alike_than_equal_rows(self):
        book = (("f", A), ("f", B))
        self.assertNotEqual(row_of(book, A), row_of(book, B))
        self.assertIs(are_alike(book, A, B), True)
        self.assertIs(are_alike(book, A, C), False)
        self.assertIs(are_alike(book, ("z", WIDE), ("z", ())), True)

    def test_put_in(self):
        for book in BOOKS[::3]:
            forms = [form for form in forms_of(FEW_SIGNS, 3) if not plain_due(book, form)]
            for one, other in itertools.combinations(forms, 2):
                if are_alike(book, one, other):
                    for form, place in surroundings(FEW_SIGNS, 3):
                        wholes = [plain_put(form, place, own) for own in (one, other)]
                        if not any(plain_due(book, whole) for whole in wholes):
                            self.assertIs(are_alike(book, wholes[0], wholes[1]), True)

    def test_cannot(self):
        for deed in (are_alike, parting, lambda book, one, other: does_part(book, one, other, None)):
            self.assertRaises(CanNot, deed, RIGHT, ("f", A, B), A)
            self.assertRaises(CanNot, deed, RIGHT, A, ("g", ("f", (), B)))


class Parting(unittest.TestCase):

    def test_does_part(self):
        for book in BOOKS[::4] + [RIGHT, DEEP]:
            forms = [form for form in forms_of(FEW_SIGNS, 3) if not plain_due(book, form)][::2]
            rows = surroundings(FEW_SIGNS, 4)[::2] + [(B, ()), (("z", (), WIDE), (0,)), (("f", (), B), (0,))]
            for one, other in itertools.combinations(forms, 2):
                for form, place in rows:
                    own = plain_spots(form)[place] == () and plain_parts_them(book, one, other, form, place)
                    self.assertIs(does_part(book, one, other, (form, place)), own)

    def test_spoiled(self):
        true = (("f", (), B, ()), (0,))
        self.assertIs(does_part(THREE, A, B, true), True)
        for thing in ([true[0], true[1]], (list(true[0]), (0,)), (true[0], [0]), (true[0], (False,)), (true[0], 0),
                      (true[0], (1,)), (true[0], (2,)), (true[0], ()), (true[0], (3,)), (true[0], (0, 0)), true + ((),),
                      true[:1], true[::-1], (("f", (), ["b"], ()), (0,)), (("f", (), ("B",), ()), (0,)), None, 1, (),
                      (("f", A, B, ()), (0,)), (("f", (), B, ()), (-3,)), (("f", (), B, ()), None), ((), ())):
            self.assertIs(does_part(THREE, A, B, thing), False, thing)
        for thing in odd_things() + more_things():
            self.assertIs(does_part(THREE, A, B, thing), False, thing)
            self.assertIs(does_part(THREE, A, B, (thing, (0,))), False, thing)
            self.assertIs(does_part(THREE, A, B, (true[0], thing)), thing == (0,), thing)

    def test_no_mark(self):
        self.assertIs(does_part(THREE, A, ("z", WIDE), (("z", MARK, ()), (1,))), False)


if __name__ == "__main__":
    unittest.main()
