"""[13]: TREES of looks."""

import itertools
import unittest

from notinvain.always import always_needs
from notinvain.blots import is_struck_whole
from notinvain.books import first_signs, is_book, is_plain
from notinvain.errors import CanNot, TooMany
from notinvain.looks import all_trees, asked_for, count_trees, has_trees, is_stuck, is_tree, least_height, least_tree
from notinvain.looks import longest_in, look_along, looks_in, next_place, stuck_form, tree_of, wanted_looks, ways_of
from notinvain.needs import needed_tasks
from notinvain.runs import is_ended
from tests.small import A, B, C, END, as_lists, forms_of, more_things, odd_things, plain_agree, plain_lies, plain_needed
from tests.small import plain_put, plain_signs, plain_spots, sides_of

ONE = (("f", ("a",), ("b",)), ("f", ("b",), ()))
THREE = (("f", (), ("a",), ("b",)), ("f", ("a",), ("b",), ()), ("f", ("b",), (), ("a",)))
BOTH, RIGHT, CHAIN = (("f", ("a",), ("b",)),), (("f", (), ("b",)),), (("f", ("c",)), ("h", ()))
DEEP = (("f", ("g", ()), ("a",)), ("f", ("g", ("a",)), ("b",)), ("f", ("h",), ()))
NOT_PLAIN = (("f", ("f", A)),)
SIGNS = (("a", 0), ("b", 0), ("f", 2), ("g", 1))
BOOKS = [book for book in sides_of(SIGNS, 4, 2) if is_book(book) and is_plain(book) and book][::5]
BOOKS += [book for book in sides_of((("a", 0), ("b", 0), ("f", 2)), 3, 3) if is_book(book) and is_plain(book)][::3]
FLAT = [("f",) + parts for parts in itertools.product(((), A, B), repeat=3)]
BOOKS += [sides for sides in itertools.combinations(sorted(FLAT), 3) if is_book(sides)][::12] + [THREE, ONE, RIGHT]
BOOKS += [THREE + (("g", A),), (("f", ("g", A), B, ()), ("f", ("g", B), (), B), ("f", ("g", ()), A, ("h",)))]
BOOKS += [DEEP, (("f", A, A, A), ("f", A, B, ()), ("f", B, (), ())), (("f", (), A), ("g", A), ("h",)), ()]
PAIRS = [(book, sign) for book in BOOKS for sign in sorted({(side[0], len(side) - 1) for side in book})]


def plain_wanted(book, form):
    """The wanted looks at form."""
    numbers = [side for side in book if plain_agree(side, form)]
    if not numbers or any(plain_lies(side, form) for side in book):
        return []
    return sorted(place for place, part in plain_spots(form).items()
                  if part == () and all(plain_spots(side).get(place, ()) != () for side in numbers))


def plain_over(book, form, place):
    """What is seen, by SIGN, behind a look at place."""
    signs = sorted({(part[0], len(part) - 1) for side in book if plain_agree(side, form)
                    for part in [plain_spots(side)[place]]})
    return [(sign, plain_put(form, place, (sign[0],) + ((),) * sign[1])) for sign in signs]


def plain_trees(book, form):
    """All TREES for what is seen."""
    for side in book:
        if plain_lies(side, form):
            return [("found", side)]
    out = []
    for place in plain_wanted(book, form):
        rows = [[(sign, tree) for tree in plain_trees(book, more)] for sign, more in plain_over(book, form, place)]
        out.extend(("look", place, branches) for branches in itertools.product(*rows))
    return sorted(out)


def plain_looks(tree):
    return 0 if tree[0] == "found" else 1 + sum(plain_looks(own) for _, own in tree[2])


def plain_height(tree):
    return 0 if tree[0] == "found" else 1 + max(plain_height(own) for _, own in tree[2])


def plain_first(tree, book, form):
    """The TREE that looks at the least wanted PLACE each time; None if there is none."""
    return next((own for own in tree if is_least(own, book, form)), None)


def is_least(tree, book, form):
    if tree[0] == "found":
        return True
    rows = plain_over(book, form, tree[1])
    return tree[1] == plain_wanted(book, form)[0] and all(
        is_least(own, book, more) for (_, own), (_, more) in zip(tree[2], rows))


def seen_first(sign):
    return (sign[0],) + ((),) * sign[1]


TREES = [(book, sign, plain_trees(book, seen_first(sign))) for book, sign in PAIRS]


def plain_next(book, trees, form):
    """The next PLACE of form, by trees, a dict by SIGN; None if there is none."""
    if form == () or any(plain_lies(side, form) for side in book):
        return ()
    tree = trees.get((form[0], len(form) - 1))
    if tree is None:
        return None
    spots = plain_spots(form)
    while tree[0] == "look":
        part = spots[tree[1]]
        below = plain_next(book, trees, part)
        if below is not None:
            return tree[1] + below
        tree = dict(tree[2]).get((part[0], len(part) - 1))
        if tree is None:
            return None
    raise AssertionError("a SIDE would fit")


def plain_asked(book, trees, form):
    own = plain_next(book, trees, form)
    if own is not None:
        return [own]
    return sorted((number,) + place for number, part in enumerate(form[1:]) for place in plain_asked(book, trees, part))


class Examples(unittest.TestCase):

    def test_tree_of(self):
        self.assertEqual(tree_of(ONE, ("f", 2)), (
            'look', (0,), ((('a', 0), ('look', (1,), ((('b', 0), ('found', ('f', ('a',), ('b',)))),))),
                           (('b', 0), ('found', ('f', ('b',), ()))))))

    def test_stuck(self):
        self.assertEqual((tree_of(THREE, ("f", 3)), stuck_form(THREE, ("f", 3)), count_trees((("f", ("a",), ("b",)),), ("f", 2))),
                         (None, ('f', (), (), ()), 2))

    def test_asked_for(self):
        self.assertEqual((asked_for(ONE, ("f", ("f", (), ()), ())), asked_for(ONE, ("f", ("c",), ("f", ("b",), ()))),
                          look_along(tree_of(ONE, ("f", 2)), ("f", ("a",), ()))), (((0, 0),), ((1,),), (((0,), (1,)), ())))


class Looks(unittest.TestCase):

    def test_wanted_looks(self):
        for book in BOOKS:
            for form in forms_of(SIGNS, 4)[1:] + [("f",) + parts for parts in itertools.product(((), A, C), repeat=3)]:
                wanted = plain_wanted(book, form)
                self.assertEqual(wanted_looks(book, form), tuple(wanted))
                stuck = (form[0], len(form) - 1) in first_signs(book) and not wanted and any(
                    plain_agree(side, form) for side in book) and not any(plain_lies(side, form) for side in book)
                self.assertIs(is_stuck(book, form), stuck)

    def test_edges(self):
        self.assertIs(is_stuck(THREE, ()), False)
        self.assertIs(is_stuck(THREE, ("f", A, B, ())), False)
        self.assertIs(is_stuck(THREE, ("g", ("f", (), (), ()))), False)
        self.assertEqual(wanted_looks(THREE, ("f", A, (), ())), ((1,),))
        self.assertEqual(wanted_looks(THREE, ("f", (), (), ())), ())
        self.assertEqual(wanted_looks(BOTH, ("f", (), C)), ())
        self.assertEqual(wanted_looks(BOTH, ("f", (), ())), ((0,), (1,)))
        self.assertEqual(wanted_looks((), A), ())

    def test_trees(self):
        for book, sign, trees in TREES:
            first = plain_first(trees, book, seen_first(sign))
            self.assertEqual(tree_of(book, sign), first)
            self.assertEqual(count_trees(book, sign), len(trees))
            if len(trees) > 60:
                self.assertRaises(TooMany, all_trees, book, sign)
            else:
                self.assertEqual(all_trees(book, sign), tuple(trees))
            least = min(((plain_looks(tree), tree) for tree in trees), default=(0, None))[1]
            self.assertEqual(least_tree(book, sign), least)
            self.assertEqual(least_height(book, sign), min((plain_height(tree) for tree in trees), default=None))
            self.assertIs(bool(trees), first is not None)
            for tree in trees[:40]:
                self.assertIs(is_tree(book, sign, tree), True)
                self.assertEqual((looks_in(tree), longest_in(tree)), (plain_looks(tree), plain_height(tree)))

    def test_stuck_forms(self):
        for book, sign, trees in TREES:
            form = stuck_form(book, sign)
            if trees:
                self.assertIsNone(form)
                continue
            self.assertEqual((form[0], len(form) - 1), sign)
            self.assertIs(is_stuck(book, form), True)
            self.assertFalse([place for place, part in plain_spots(form).items()
                              if place and part and (part[0], len(part) - 1) in first_signs(book)])
            self.assertIs(is_struck_whole(book, form), True)
            self.assertEqual(needed_tasks(book, form), ())

    def test_both_kinds(self):
        told = [bool(trees) for _, _, trees in TREES]
        self.assertGreater(told.count(True), 60)
        self.assertGreater(told.count(False), 3)
        self.assertGreater(max(len(trees) for _, _, trees in TREES), 5)

    def test_stuck_exactly_if_no_tree(self):
        for book, sign, trees in TREES[::2]:
            forms = [form for form in forms_of(sorted(plain_signs(book)), 5) if form and (form[0], len(form) - 1) == sign]
            if trees:
                self.assertFalse([form for form in forms if is_stuck(book, form)])
            for form in forms:
                for place, part in sorted(plain_spots(form).items(), reverse=True):
                    if place and part and (part[0], len(part) - 1) in first_signs(book):
                        form = plain_put(form, place, ())
                if is_stuck(book, form):
                    self.assertIs(is_struck_whole(book, form), True)
                    self.assertEqual(plain_needed(book, form), ())

    def test_sides_left_out(self):
        for book, sign, trees in TREES:
            for number in range(len(book) if trees else 0):
                left = book[:number] + book[number + 1:]
                if sign in first_signs(left):
                    self.assertIsNotNone(tree_of(left, sign))

    def test_ways(self):
        def leaves(tree):
            if tree[0] == "found":
                return [(tree[1], ())]
            return [(side, (tree[1],) + places) for _, own in tree[2] for side, places in leaves(own)]
        for book, sign, trees in TREES:
            for tree in trees[:10]:
                self.assertEqual(ways_of(tree), tuple(sorted(leaves(tree))))
                for side, places in ways_of(tree):
                    own = sorted(place for place, part in plain_spots(side).items() if place and part)
                    self.assertEqual(sorted(places), own)

    def test_look_along(self):
        terms = forms_of((("a", 0), ("b", 0), ("g", 1), ("k", 2)), 3)[1:]
        for book, sign, trees in TREES:
            forms = [(sign[0],) + parts for parts in itertools.product([()] + terms[:9], repeat=sign[1])]
            forms = forms if len(forms) < 200 else forms[::7]
            for tree in trees[:4]:
                for form in forms:
                    places, own = [], tree
                    while own is not None and own[0] == "look":
                        places.append(own[1])
                        part = plain_spots(form)[own[1]]
                        own = dict(own[2]).get((part[0], len(part) - 1)) if part else ()
                        if own == ():
                            break
                    told = None if own is None else own and own[1]
                    self.assertEqual(look_along(tree, form), (tuple(places), told))
                    if () not in plain_spots(form).values():
                        fits = [side for side in book if plain_lies(side, form)]
                        firsts = [part for place, part in plain_spots(form).items()
                                  if place and (part[0], len(part) - 1) in first_signs(book)]
                        if not firsts:
                            self.assertEqual(told, fits[0] if fits else None)
                            if fits:
                                own = sorted(place for place, part in plain_spots(fits[0]).items() if place and part)
                                self.assertEqual(sorted(places), own)


class Asking(unittest.TestCase):

    def test_as_the_words_say(self):
        wide = [("f",) + parts for parts in itertools.product(((), A, ("g", ()), ("f", A, B)), repeat=3)]
        for turn, book in enumerate(BOOKS):
            own = [bool(trees) for other, _, trees in TREES if other == book]
            trees = {sign: tree_of(book, sign) for sign in first_signs(book)}
            self.assertIs(has_trees(book), all(own))
            for form in forms_of(SIGNS, 4)[turn % 4::4] + (wide if ("f", 3) in first_signs(book) else []):
                if not all(own):
                    self.assertRaises(CanNot, next_place, book, form)
                    self.assertRaises(CanNot, asked_for, book, form)
                    continue
                self.assertEqual(next_place(book, form), plain_next(book, trees, form))
                asked = asked_for(book, form)
                self.assertEqual(asked, tuple(plain_asked(book, trees, form)))
                self.assertLessEqual(set(asked), set(plain_needed(book, form)))
                self.assertIs(bool(asked), not is_ended(book, form))

    def test_always_needs(self):
        for book in BOOKS + [BOTH, CHAIN[:1]]:
            try:
                own = always_needs(book)
            except TooMany:
                continue
            self.assertIs(has_trees(book), own)

    def test_deep_forms(self):
        form = ()
        for _ in range(299):
            form = ("g", form)
        self.assertEqual(next_place((("g", A),), form), (0,) * 299)
        self.assertEqual(asked_for((("g", A),), ("k", form, form)), ((0,) * 300, (1,) + (0,) * 299))
        self.assertEqual(asked_for(RIGHT, form), ((0,) * 299,))
        self.assertIsNone(next_place(RIGHT, form))

    def test_edges(self):
        self.assertEqual(next_place(ONE, ()), ())
        self.assertEqual(next_place(ONE, ("f", B, C)), ())
        self.assertIsNone(next_place(ONE, ("f", C, ())))
        self.assertIsNone(next_place(ONE, ("z", ())))
        self.assertEqual(asked_for(ONE, ("z", (), ("f", C, ()))), ((0,), (1, 1)))
        self.assertEqual(next_place(ONE, ("f", ("f", C, ()), ("f", (), ()))), None)
        self.assertEqual(asked_for(ONE, ("f", ("f", C, ()), ("f", (), ()))), ((0, 1), (1, 0)))
        self.assertEqual(asked_for((), A), ())


class Errors(unittest.TestCase):

    def test_not_plain_first(self):
        self.assertIs(is_plain(NOT_PLAIN), False)
        signed = (tree_of, stuck_form, count_trees, all_trees, least_tree, least_height,
                  lambda book, sign: is_tree(book, sign, None))
        for deed in signed:
            for sign in (("f", 1), ("z", 0)):
                self.assertRaises(CanNot, deed, NOT_PLAIN, sign)
            for sign in (("f", 1), ("a", 0), ("g", 2), ("f", 0)):
                self.assertRaises(CanNot, deed, ONE, sign)
                self.assertRaises(CanNot, deed, (), sign)
            deed(ONE, ["f", 2])
        for deed in (wanted_looks, is_stuck, next_place, asked_for):
            self.assertRaises(CanNot, deed, NOT_PLAIN, A)
            self.assertRaises(CanNot, deed, NOT_PLAIN, ("f", ()))
        self.assertRaises(CanNot, has_trees, NOT_PLAIN)
        self.assertRaises(CanNot, next_place, THREE, ())
        self.assertRaises(CanNot, asked_for, THREE, A)
        self.assertIs(has_trees(()), True)

    def test_sixty_trees(self):
        counts = {}
        six = ("g", A, A)
        sides = [("f", parts) for parts in ()] + [("f", six, ()), ("f", six, A), ("f", ("g", A, B), six), ("f", A, B, C)]
        sides += [("f", ("k", A, B, C)), ("f", ("k", A, B, C), A), ("f", ("g", ("g", A, A), ()), A), ("f", ("k", A, A, A), ("g", A))]
        sides += [("f", ("g", A, A), ("h", A)), ("f", ("h", A), ("h", A), ()), ("f", ("h", A), ("h", A), A), ("f", six, six, ())]
        for side in sides:
            sign = (side[0], len(side) - 1)
            trees = plain_trees((side,), seen_first(sign)) if len(plain_spots(side)) < 7 else None
            many = count_trees((side,), sign)
            if trees is not None:
                self.assertEqual(many, len(trees))
            counts[many] = side
            if many > 60:
                self.assertRaises(TooMany, all_trees, (side,), sign)
            else:
                own = all_trees((side,), sign)
                self.assertEqual(len(own), many)
                self.assertTrue(all(is_tree((side,), sign, tree) for tree in own))
        self.assertTrue(any(many > 60 for many in counts))

    def test_just_at_sixty(self):
        sixty = (("f", ("k", A, B), ("h", ("h", A))),)
        self.assertEqual(count_trees(sixty, ("f", 2)), 40)
        one = (("f", ("h", ("k", A, B)), A, B),)
        two = (("f", (), ("k", ("k", (), A), C), ()), ("f", B, ("k", ("h", ("h", ())), ("h", ())), C))
        for book in (one, two):
            self.assertEqual(count_trees(book, ("f", 3)), 60)
            own = all_trees(book, ("f", 3))
            self.assertEqual((len(own), list(own)), (60, plain_trees(book, seen_first(("f", 3)))))
        more = (("f", C, B, ("h", ("k", (), ()))), ("f", C, ("k", (), B), ("h", ("h", ()))))
        self.assertEqual(count_trees(more, ("f", 3)), 63)
        self.assertRaises(TooMany, all_trees, more, ("f", 3))

    def test_many_trees(self):
        side = ("f", ("k", A, B, C), ("k", A, B, C), A)
        sign = ("f", 3)
        self.assertEqual(len(plain_spots(side)), 10)
        self.assertEqual(count_trees((side,), sign), 362880 // 16)
        self.assertRaises(TooMany, all_trees, (side,), sign)
        tree = least_tree((side,), sign)
        self.assertEqual((looks_in(tree), longest_in(tree), least_height((side,), sign)), (9, 9, 9))
        self.assertEqual(tree, tree_of((side,), sign))
        eight = tuple(sorted(("f", ("k", A, B, C), ("k", A, B, own), own) for own in
                             [("l",), ("m",), ("n",), ("o",), ("p",), ("q",), ("r",), ("s",)]))
        self.assertGreater(count_trees(eight, sign), 10 ** 6)
        self.assertGreaterEqual(looks_in(least_tree(eight, sign)), 9)
        self.assertEqual(least_height(eight, sign), 9)


class Trees(unittest.TestCase):

    def test_spoiled(self):
        tree, sign = tree_of(ONE, ("f", 2)), ("f", 2)
        self.assertIs(is_tree(ONE, sign, tree), True)
        (one, two), found = tree[2], ("found", ONE[1])
        things = [list(tree), as_lists(tree), tree[:2], tree + ((),), ("found", ONE[1]), ("Look",) + tree[1:], None, (), 1,
                  ("look", [0], tree[2]), ("look", (False,), tree[2]), ("look", (1,), tree[2]), ("look", (0,), (one,)),
                  ("look", (0,), (two, one)), ("look", (0,), (one, two, two)), ("look", (0,), [one, two]),
                  ("look", (0,), (one, list(two))), ("look", (0,), (one, (("b", False), found))),
                  ("look", (0,), (one, (["b", 0], found))), ("look", (0,), (one, (("b", 0), ("found", ONE[0])))),
                  ("look", (0,), (one, (("b", 0), ["found", ONE[1]]))), ("look", (0,), (one, (("b", 0), found, ()))),
                  ("look", (0,), (one, (("b", 0), ("found", list(ONE[1]))))), ("look", (0,), (one, (("c", 0), found))),
                  ("look", (0,), (one, (("b", 1), found))), ("look", (0,), (one, (("b", 0), ("look", (1,), ()))))]
        for thing in things:
            self.assertIs(is_tree(ONE, sign, thing), False, thing)
        for thing in odd_things() + more_things():
            for own in (thing, ("look", (0,), thing), ("look", thing, tree[2]), ("look", (0,), (one, (("b", 0), thing))),
                        ("look", (0,), (one, thing)), ("look", (0,), (one, (thing, found))), (thing, (0,), tree[2])):
                self.assertIs(is_tree(ONE, sign, own), own == tree, own)

    def test_all_wrong_orders(self):
        for book, sign, trees in TREES[::3]:
            for other in PAIRS[::5]:
                tree = tree_of(*other)
                if tree is not None:
                    self.assertIs(is_tree(book, sign, tree), tree in trees)

    def test_found_at_once(self):
        self.assertEqual(tree_of((("f", (), ()), ("g", A)), ("f", 2)), ("found", ("f", (), ())))
        self.assertEqual(all_trees((END[:0] + ("c",),), ("c", 0)), (("found", C),))
        self.assertEqual((looks_in(("found", C)), longest_in(("found", C)), ways_of(("found", C))), (0, 0, ((C, ()),)))
        self.assertEqual(look_along(("found", C), C), ((), C))
        self.assertEqual((least_height((C,), ("c", 0)), count_trees((C,), ("c", 0))), (0, 1))


if __name__ == "__main__":
    unittest.main()
