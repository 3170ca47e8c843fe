"""FORMS, SIDES, TREES and CODES that are deeper than Python lets a function call itself."""

import ast
import itertools
import pathlib
import random
import sys
import unittest

from notinvain.always import is_struck, lacks
from notinvain.blots import blot, blot_rows, greatest_held, holds_up, is_whole, reaches, strikes_by, struck, undecided
from notinvain.board import Board
from notinvain.books import agreeing, books_within, clash, fits_in, fitting, is_book, is_overlap, is_plain, is_side, is_sides
from notinvain.books import first_signs, most_book, overlap_form, overlaps, parts_of, pattern_of, signs_of, spoilers
from notinvain.cells import cell_form, is_done, plan_of, with_call
from notinvain.code import book_code, code_of, do_alike, first_state, is_code, least_code, ran, replied, run_code, trees_in
from notinvain.ends import common_end, is_end_of, made_end, parting_place
from notinvain.errors import CanNot, TooMany
from notinvain.follows import are_reasons, both_books, clashes, follows, healings, idle_sides, is_odd_form, kept_house
from notinvain.follows import odd_form, reasons, turned_tasks, with_side, without_side
from notinvain.forms import filling, form_spelled, has_name, is_form, joined, joined_all, lies_in, met_form, odds_of
from notinvain.forms import places_of, put_at, size_of, spelling_of
from notinvain.judge import is_claim, is_paper_against, is_reason_for, paper_against, reason_for, stands
from notinvain.looks import all_trees, asked_for, count_trees, has_trees, is_tree, least_height, least_tree, longest_in
from notinvain.looks import look_along, looks_in, next_place, stuck_form, tree_of, ways_of
from notinvain.lots import bars, least_barring, run_within, share
from notinvain.needs import is_why_needed, need_run, needed_tasks, run_without, why_needed
from notinvain.rows import row_of
from notinvain.runs import due_places, is_run, led, skeleton, tasks, unwashed
from notinvain.texts import form_word, reply_word
from notinvain.trees import ascending, flat, same
from notinvain.worlds import joined_house, shared_house
from tests.small import A, B, C, END, forms_of, nested, sides_of

START = [("enter", (), 3, 1), ("parts", 0, 2), ("leave",), ("open", 4)]
F, G = ("f", 1), ("g", 1)
# A FORM deeper than the functions of the package may be, where shallow lets them go only so deep.
DEPTH, LEFT = 120, 60
PACKAGE = pathlib.Path(__file__).resolve().parent.parent / "notinvain"
# These go no deeper than the level of a play, at most 3, and than a REPLY of at most 12 nodes.
BOUNDED = {("foes.py", "weight"), ("foes.py", "_settled"), ("texts.py", "_numbered")}


def shallow(deed, *given):
    """What deed tells, where Python lets functions call themselves only so deep."""
    frames, frame = 0, sys._getframe()
    while frame is not None:
        frames, frame = frames + 1, frame.f_back
    limit = sys.getrecursionlimit()
    sys.setrecursionlimit(frames + LEFT)
    try:
        return deed(*given)
    finally:
        sys.setrecursionlimit(limit)


def tall(name, depth, last):
    """name(name(.. last))."""
    form = last
    for _ in range(depth):
        form = (name, form)
    return form


def equal(one, other):
    """Whether two things are equal, told without Python's own comparison of tuples."""
    waiting = [(one, other)]
    while waiting:
        own, more = waiting.pop()
        if type(own) is not type(more) or isinstance(own, (list, tuple)) and len(own) != len(more):
            return False
        if isinstance(own, (list, tuple)):
            waiting.extend(zip(own, more))
        elif own != more:
            return False
    return True


def in_line(looks, first=F):
    """The CODE of looks, pairs of a PLACE and a SIGN, each in the only branch of the one ahead."""
    rows = START + [("test", (), first, 6, 5), ("leave",)]
    for place, sign in looks:
        at = len(rows)
        rows.extend([("enter", place, 3, at + 1), ("test", place, sign, at + 3, at + 2), ("leave",)])
    return tuple(rows + [("call", 3)])


def tree_in_line(looks, side):
    tree = ("found", side)
    for place, sign in reversed(looks):
        tree = ("look", place, ((sign, tree),))
    return tree


def down(depth):
    """Looks at PLACES each below the one ahead, and the SIDE that they find."""
    looks = [((0,) * (number + 1), G) for number in range(depth)] + [((0,) * (depth + 1), ("a", 0))]
    return looks, ("f", tall("g", depth, A))


def across(many):
    """Looks at so many PLACES, those with fewer numbers first, and the SIDE that they find."""
    whole = ["f", [], [], []]
    looks, waiting = [], [((number,), whole[number + 1]) for number in range(3)]
    for number in range(many):
        place, part = waiting[number]
        part.extend(["k", [], [], []])
        looks.append((place, ("k", 3)))
        waiting.extend((place + (own,), part[own + 1]) for own in range(3))
    # No more than eight deep for so few.
    return looks, tuple_of(whole)


def tuple_of(whole):
    return whole if isinstance(whole, str) else tuple(tuple_of(part) for part in whole)


def found_ahead(many):
    """The CODE of looks, each with a branch that finds a(), ahead of one with the next look."""
    rows = START + [("test", (), F, 6, 5), ("leave",)]
    for number in range(many):
        place, at = (0,) * (number + 1), len(rows)
        rows.extend([("enter", place, 3, at + 1), ("test", place, ("a", 0), at + 4, at + 2),
                     ("test", place, G, at + 5, at + 3), ("leave",), ("call", 3)])
    # The last one has no next look: what is seen there is found, too.
    return tuple(rows + [("call", 3)])


def found_behind(many):
    """The CODE of looks, each with a branch that finds h(), behind one with the next look."""
    rows = START + [("test", (), F, 6, 5), ("leave",)]
    last = len(rows) + 4 * many
    for number in range(many):
        place, at = (0,) * (number + 1), len(rows)
        rows.extend([("enter", place, 3, at + 1), ("test", place, G, at + 4, at + 2),
                     ("test", place, ("h", 0), last + many - number, at + 3), ("leave",)])
    return tuple(rows + [("call", 3)] * (many + 1))


class Codes(unittest.TestCase):

    def test_rows(self):
        for depth in (0, 1, 2, 5):
            looks, side = down(depth)
            self.assertEqual(code_of(((F, tree_in_line(looks, side)),)), in_line(looks))
            self.assertEqual(trees_in(in_line(looks)), ((F, tree_in_line(looks, side)),))
        for many in (1, 2, 5, 40):
            looks, side = across(many)
            self.assertEqual(trees_in(in_line(looks, ("f", 3))), ((("f", 3), tree_in_line(looks, side)),))
        for make, last in ((found_ahead, A), (found_behind, ("h",))):
            (sign, tree), = trees_in(make(4))
            sides = tuple(sorted([("f", tall("g", 4, ()))] + [("f", tall("g", depth, last)) for depth in range(4)]))
            self.assertEqual(sorted(side for side, places in ways_of(tree)), list(sides))
            self.assertIs(is_book(sides) and is_plain(sides) and is_tree(sides, sign, tree), True)

    def check(self, code, looks, longest):
        self.assertIs(is_code(code), True)
        trees = trees_in(code)
        self.assertEqual(len(trees), 1)
        self.assertEqual(code_of(trees), code)
        tree = trees[0][1]
        self.assertEqual((looks_in(tree), longest_in(tree)), (looks, longest))
        return tree

    def test_one_below_the_other(self):
        for depth in (300, 1500):
            looks, side = down(depth)
            code = in_line(looks)
            tree = self.check(code, depth + 1, depth + 1)
            self.assertTrue(equal(tree, tree_in_line(looks, side)))
            (told, places), = ways_of(tree)
            self.assertTrue(equal(told, side))
            self.assertEqual(places, tuple(place for place, sign in looks))
            places, told = look_along(tree, side)
            self.assertEqual((len(places), equal(told, side)), (depth + 1, True))
            self.assertEqual(look_along(tree, ("f", tall("g", depth, ())))[1], ())
            self.assertIsNone(look_along(tree, ("f", tall("g", depth, B)))[1])

    def test_side_by_side(self):
        for many in (300, 1200, 4000):
            looks, side = across(many)
            tree = self.check(in_line(looks, ("f", 3)), many, many)
            self.assertEqual([told for told, places in ways_of(tree)], [side])

    def test_many_found(self):
        for make in (found_ahead, found_behind):
            for many in (60, 250):
                tree = self.check(make(many), many, many)
                ways = ways_of(tree)
                self.assertEqual(sorted(len(places) for side, places in ways), list(range(1, many + 1)) + [many])

    def test_two_signs(self):
        looks, side = down(500)
        code = in_line(looks)
        trees = trees_in(code) + ((("h", 1), ("look", (0,), ((("b", 0), ("found", ("h", B))),))),)
        both = code_of(trees)
        self.assertEqual((len(both), both[:5]), (len(code) + 5, tuple(START) + (("test", (), F, 7, 5),)))
        self.assertTrue(equal(trees_in(both), trees))
        # h in f(g(.. h(b))) would be a first SIGN in a PART.
        looks[-1:] = [(looks[-1][0], ("h", 1)), (looks[-1][0] + (0,), ("b", 0))]
        one = trees_in(in_line(looks))
        self.assertEqual(len(one), 1)
        self.assertIsNone(trees_in(code_of(one + trees[1:])))

    def test_none(self):
        looks, side = down(300)
        code = in_line(looks)
        own = [in_line(looks[:-1] + [(looks[-1][0], sign)]) for sign in (F, ("end", 0), ("stop", 0), ("mark", 0), ("end", 3))]
        own += [in_line(looks[:-1] + [(looks[-1][0] + place, ("a", 0))]) for place in ((0,), (1,))]
        own += [in_line(looks + looks[-1:]), in_line(looks[:200] + looks[199:]), in_line(looks[1:]), code + code[-1:]]
        own += [in_line([(place, ("g", 0)) for place, sign in looks]), in_line(looks, ("g", 1)), in_line(looks, ("end", 1))]
        for number in (4, 6, 500, len(code) - 3):
            for at in range(len(code[number])):
                if isinstance(code[number][at], int):
                    more = (code[number][at] + 1) % len(code)
                    own.append(code[:number] + (code[number][:at] + (more,) + code[number][at + 1:],) + code[number + 1:])
        for rows in own:
            self.assertIs(is_code(rows), True)
            self.assertIsNone(shallow(trees_in, rows))
        # A look at the end that has no branch.
        at, place = len(code) - 4, looks[-1][0]
        self.assertIsNone(shallow(trees_in, code[:at] + (("enter", place, 3, at + 1), ("leave",))))

    def test_as_small_ones(self):
        """What is read back is that of which the CODE is code_of, as all small TREES of unlike looks show."""
        rnd, told = random.Random(4), [0, 0]
        signs = (("a", 0), ("b", 0), ("g", 1), ("f", 2), ("end", 0))
        for _ in range(3000):
            trees = tuple(sorted((sign, random_tree(rnd, [(number,) for number in range(sign[1])], signs, 3))
                                 for sign in sorted({rnd.choice((("f", 2), ("h", 1), ("a", 0))) for _ in range(rnd.randint(0, 2))})))
            code = code_of(trees)
            own = trees_in(code)
            sides = tuple(sorted(side for sign, tree in with_sides(trees) for side, places in ways_of(tree)))
            good = is_book(sides) and is_plain(sides) and first_signs(sides) == tuple(sign for sign, tree in trees) and all(
                is_tree(sides, sign, tree) for sign, tree in with_sides(trees))
            told[own is not None] += 1
            self.assertEqual(own, with_sides(trees) if good else None)
        self.assertGreater(min(told), 300)

    def test_machine(self):
        looks, side = down(600)
        code = in_line(looks)
        self.assertEqual(len(least_code(code)), 2 * len(looks) + 6)
        self.assertIs(do_alike(code, code + (("leave",),)), True)
        self.assertIs(do_alike(code, in_line(looks[:-1])), False)
        form = ("f", tall("g", 300, ()))
        self.assertEqual(ran(code, first_state(form))[1], (0,) * 301)
        self.assertRaises(TooMany, ran, code, first_state(("f", tall("g", 800, ()))))
        state, place = ran(code, first_state(form))
        self.assertTrue(equal(replied(state, A)[0], ("f", tall("g", 300, A))))


def random_tree(rnd, places, signs, depth):
    """What may be a TREE, None for its SIDES."""
    if depth == 0 or not places or rnd.random() < 0.2:
        return ("found", None)
    place, rows = rnd.choice(places), []
    for sign in sorted({rnd.choice(signs[:4] if rnd.random() < 0.95 else signs) for _ in range(rnd.choice((1, 1, 2)))}):
        more = [own for own in places if own != place] + [place + (number,) for number in range(sign[1])]
        rows.append((sign, random_tree(rnd, more, signs, depth - 1)))
    return ("look", place, tuple(rows) if rnd.random() < 0.97 else tuple(rows[::-1][1:]))


def filled(tree, seen):
    """tree, with what is seen there for its SIDES."""
    if tree[0] == "found":
        return ("found", seen)
    return tree[:2] + (tuple((sign, filled(own, put_at(seen, tree[1], (sign[0],) + ((),) * sign[1]))) for sign, own in tree[2]),)


def with_sides(trees):
    return tuple((sign, filled(tree, (sign[0],) + ((),) * sign[1])) for sign, tree in trees)


class Sides(unittest.TestCase):

    def setUp(self):
        self.side, self.other = ("f", tall("g", DEPTH, A)), ("f", tall("g", DEPTH, B))
        self.book = (self.side, self.other)
        # f(g(.. g(_)), a) and the like: no look is wanted at first.
        deep = [tall("g", DEPTH, last) for last in (A, B)]
        self.three = tuple(sorted([("p", ()) + (deep[0], deep[1]), ("p", deep[0], deep[1], ()), ("p", deep[1], (), deep[0])],
                                  key=flat))

    def test_kinds(self):
        for sides in (self.book, self.book[:1], self.three):
            self.assertIs(shallow(is_sides, sides) and shallow(is_book, sides) and shallow(is_plain, sides), True)
            self.assertIs(shallow(is_sides, sides[::-1]), len(sides) == 1)
        self.assertEqual(len(shallow(parts_of, self.book)), 2 * DEPTH + 2)
        self.assertEqual(len(shallow(parts_of, (("f", tall("g", DEPTH, A), tall("g", DEPTH - 1, A)),))), DEPTH + 1)
        self.assertEqual((shallow(signs_of, self.book), shallow(overlaps, self.three)), ((("a", 0), ("b", 0), F, G), ()))
        self.assertEqual((len(shallow(pattern_of, self.side)), shallow(spoilers, self.book)), (DEPTH + 2, ()))
        sides = tuple(sorted(self.book + (("f", tall("g", DEPTH, ())),), key=flat))
        self.assertEqual(shallow(overlaps, sides), ((0, 1, ()), (0, 2, ())))
        self.assertIs(shallow(is_overlap, sides, (0, 2, ())), True)
        self.assertTrue(equal(shallow(overlap_form, sides, (0, 2, ())), self.other))
        self.assertTrue(equal(shallow(books_within, sides), ((sides[0],), sides[1:])))
        self.assertTrue(equal(shallow(most_book, sides), sides[1:]))
        self.assertTrue(equal(shallow(fitting, sides, self.other), sides[0]))
        self.assertEqual((shallow(agreeing, sides, self.side), shallow(fits_in, sides, self.side)), ((0, 1), (((), 0), ((), 1))))
        self.assertEqual(shallow(clash, sides, self.side), ((), 0, 1))

    def test_trees(self):
        looks, side = down(DEPTH)
        tree = tree_in_line(looks[:-1] + [(looks[-1][0], ("a", 0))], side)
        for deed in (tree_of, least_tree):
            self.assertTrue(equal(shallow(deed, self.book[:1], F), tree))
        self.assertTrue(equal(shallow(all_trees, self.book[:1], F), (tree,)))
        self.assertEqual((shallow(count_trees, self.book, F), shallow(least_height, self.book, F)), (1, DEPTH + 1))
        own = shallow(tree_of, self.book, F)
        self.assertEqual((shallow(looks_in, own), shallow(longest_in, own), len(shallow(ways_of, own))), (DEPTH + 1, DEPTH + 1, 2))
        self.assertIs(shallow(is_tree, self.book, F, own), True)
        self.assertIs(shallow(is_tree, self.book, F, tree), False)
        self.assertIs(shallow(is_tree, self.book[:1], F, tree), True)
        self.assertIs(shallow(has_trees, self.book), True)
        self.assertIsNone(shallow(stuck_form, self.book, F))
        self.assertTrue(equal(shallow(look_along, own, self.other)[1], self.other))
        code = shallow(book_code, self.book)
        self.assertTrue(equal(shallow(trees_in, code), ((F, own),)))
        self.assertEqual(shallow(code_of, ((F, own),)), code)
        form = ("f", tall("g", DEPTH, ()))
        self.assertEqual(shallow(next_place, self.book, form), (0,) * (DEPTH + 1))
        self.assertEqual(shallow(asked_for, self.book, ("k", form, form)), ((0,) * (DEPTH + 2), (1,) + (0,) * (DEPTH + 1)))
        form, places, waiting = shallow(run_code, code, form, (A, END))
        self.assertEqual((form, places, waiting), (END, ((0,) * (DEPTH + 1), ()), None))

    def test_trees_that_end_alike(self):
        """Two TREES that are alike but for the last looks."""
        side = ("f", tall("g", DEPTH, ("k", A, B)))
        self.assertEqual(shallow(count_trees, (side,), F), 2)
        trees = shallow(all_trees, (side,), F)
        self.assertEqual([shallow(is_tree, (side,), F, tree) for tree in trees], [True, True])
        self.assertTrue(equal(shallow(least_tree, (side,), F), trees[0]))
        self.assertTrue(equal(shallow(tree_of, (side,), F), trees[0]))
        self.assertFalse(equal(trees[0], trees[1]))

    def test_no_trees(self):
        self.assertIs(shallow(has_trees, self.three), False)
        self.assertEqual(shallow(stuck_form, self.three, ("p", 3)), ("p", (), (), ()))
        self.assertTrue(equal(shallow(clashes, self.three), (self.three,)))
        self.assertTrue(equal(shallow(healings, self.three), tuple((side,) for side in self.three)))
        self.assertEqual((shallow(clashes, self.book), shallow(healings, self.book)), ((), ((),)))
        sides = (("f", tall("g", DEPTH, ("p", (), A, B))), ("f", tall("g", DEPTH, ("p", A, B, ()))), ("f", tall("g", DEPTH, ("p", B, (), A))))
        self.assertTrue(equal(shallow(stuck_form, sides, F), ("f", tall("g", DEPTH, ("p", (), (), ())))))
        self.assertEqual(shallow(count_trees, sides, F), 0)
        self.assertEqual(shallow(all_trees, sides, F), ())

    def test_edits(self):
        self.assertTrue(equal(shallow(with_side, self.book[:1], self.other), self.book))
        self.assertTrue(equal(shallow(with_side, self.book, ("f", tall("g", DEPTH, B))), self.book))
        self.assertTrue(equal(shallow(both_books, self.book, self.book[1:]), self.book))
        self.assertTrue(equal(shallow(without_side, self.book, ("f", tall("g", DEPTH, A))), self.book[1:]))
        self.assertRaises(CanNot, shallow, without_side, self.book, ("f", tall("g", DEPTH, C)))
        self.assertEqual(shallow(idle_sides, self.book), ())
        sides = tuple(sorted(self.book + (("f", tall("g", DEPTH, ())),), key=flat))
        self.assertTrue(equal(shallow(idle_sides, sides), self.book))
        self.assertIs(shallow(follows, self.book, sides), False)
        self.assertTrue(equal(shallow(odd_form, self.book, sides), ("f", tall("g", DEPTH, END))))
        self.assertIs(shallow(is_odd_form, self.book, sides, ("f", tall("g", DEPTH, C))), True)
        self.assertIs(shallow(are_reasons, sides, self.book, shallow(reasons, sides, self.book)), True)
        house = (plan_of(self.side), (((0,), END),))
        self.assertTrue(equal(shallow(kept_house, self.book, (("f", tall("g", DEPTH, A)),), house), house))
        self.assertTrue(equal(shallow(kept_house, self.book, self.book[1:], house), (house[0], ())))

    def test_rows(self):
        form, part = ("f", tall("g", DEPTH, ())), tall("g", DEPTH, A)
        numbers = tuple(number for number, own in enumerate(parts_of(self.book)) if equal(own, part))
        self.assertEqual((len(numbers), shallow(row_of, self.book, part)), (1, (0, numbers, numbers, ())))
        self.assertEqual((shallow(lacks, self.book, form), shallow(is_struck, self.book, form)), (False, True))
        self.assertEqual(shallow(needed_tasks, self.book, form), ((0,) * (DEPTH + 1),))
        self.assertEqual(shallow(turned_tasks, self.book, self.book[:1], form), ())

    def test_claims(self):
        for sides in (self.book, self.three):
            sign = ("p", 3) if sides == self.three else F
            claim = ("tree", sides, sign)
            self.assertIs(shallow(is_claim, claim), True)
            good = sides is self.book
            self.assertIs(shallow(stands, claim), good)
            if good:
                self.assertIs(shallow(is_reason_for, claim, shallow(reason_for, claim)), True)
            else:
                self.assertIs(shallow(is_paper_against, claim, shallow(paper_against, claim)), True)
        self.assertIs(shallow(stands, ("follows", self.book, self.book[:1])), True)


class Forms(unittest.TestCase):

    def setUp(self):
        self.form, self.term = tall("g", DEPTH, ()), tall("g", DEPTH, A)
        self.chain = (("g", A),)

    def test_forms(self):
        self.assertIs(shallow(is_form, self.form) and shallow(is_side, self.term), True)
        self.assertEqual((shallow(size_of, self.term), len(shallow(places_of, self.form))), (DEPTH + 1, DEPTH + 1))
        self.assertTrue(equal(shallow(put_at, self.form, (0,) * DEPTH, A), self.term))
        self.assertTrue(equal(shallow(joined, self.form, self.term), self.term))
        self.assertTrue(equal(shallow(joined_all, (self.form, self.term, self.form)), self.term))
        self.assertTrue(equal(shallow(met_form, tall("g", DEPTH, B), self.term), self.form))
        self.assertEqual((shallow(lies_in, self.form, self.term), shallow(lies_in, self.term, self.form)), (True, False))
        self.assertEqual((shallow(filling, self.form, self.term), shallow(has_name, self.term, "a")), ((A,), True))
        self.assertEqual(shallow(odds_of, tall("g", DEPTH, B), self.term), (0,) * DEPTH)
        self.assertTrue(equal(shallow(form_spelled, shallow(spelling_of, self.term)), self.term))
        self.assertEqual(shallow(form_word, self.term), "g(" * DEPTH + "a" + ")" * DEPTH)
        self.assertEqual(shallow(reply_word, tall("g", DEPTH, 7)), "g(" * DEPTH + "7" + ")" * DEPTH)

    def test_runs(self):
        self.assertEqual(shallow(due_places, self.chain, self.term), ((0,) * (DEPTH - 1),))
        self.assertTrue(equal(shallow(skeleton, self.chain, self.term), tall("g", DEPTH - 1, ())))
        self.assertEqual(shallow(tasks, self.chain, self.form), ((0,) * DEPTH,))
        run = (((0,) * DEPTH, A), ((0,) * (DEPTH - 1), C))
        self.assertIs(shallow(is_run, self.chain, self.form, run), True)
        self.assertTrue(equal(shallow(led, self.chain, self.form, run), tall("g", DEPTH - 1, C)))
        # Without the first one the second one is at no due PLACE.
        self.assertEqual(shallow(unwashed, self.chain, self.form, run), run)

    def test_strikes(self):
        for form in (self.form, self.term, tall("g", DEPTH, C), tall("h", DEPTH, ("g", ()))):
            rows = shallow(blot_rows, self.chain, form)
            self.assertIs(shallow(is_whole, self.chain, form, rows), True)
            self.assertIs(shallow(is_whole, self.chain, form, rows[:-1]), not rows)
            self.assertIs(shallow(is_whole, self.chain, form, None), False)
            self.assertTrue(equal(shallow(struck, self.chain, form, rows), shallow(blot, self.chain, form)))
            self.assertEqual(shallow(strikes_by, self.chain, form, [place for place, number in rows]), rows)
            self.assertIs(shallow(holds_up, self.chain, form, shallow(greatest_held, self.chain, form)), True)
            self.assertEqual(len(shallow(undecided, self.chain, form)) + len(greatest_held(self.chain, form)), size_of(form))
        self.assertIsNone(shallow(reaches, self.chain, self.term))

    def test_ends(self):
        form = tall("h", DEPTH, ("g", ()))
        self.assertTrue(equal(shallow(led, self.chain, form, shallow(made_end, self.chain, form, "end")), tall("h", DEPTH, END)))
        self.assertIs(shallow(is_end_of, self.chain, form, tall("h", DEPTH, C)), True)
        self.assertTrue(equal(shallow(common_end, self.chain, (form, tall("h", DEPTH, ()))), tall("h", DEPTH, END)))
        self.assertEqual(shallow(parting_place, self.chain, tall("h", DEPTH, B), tall("h", DEPTH, C)), (0,) * DEPTH)

    def test_needs_and_lots(self):
        form, place = tall("h", DEPTH, ("g", ())), (0,) * (DEPTH + 1)
        self.assertIs(shallow(is_why_needed, self.chain, form, place, shallow(why_needed, self.chain, form, place)), True)
        self.assertIsNone(shallow(run_without, self.chain, form, place))
        self.assertEqual(shallow(need_run, self.chain, form, (A, END)), ((place, A), (place[1:], END)))
        self.assertEqual((shallow(least_barring, self.chain, form), shallow(share, self.chain, form)), (((place,),), (1, 1)))
        self.assertIs(shallow(bars, self.chain, form, (place,)), True)
        self.assertIsNone(shallow(run_within, self.chain, form, ()))

    def test_claims(self):
        form = tall("h", DEPTH, ("g", ()))
        for claim, good in ((("shown", self.chain, form, tall("h", DEPTH, ())), True), (("shown", self.chain, form, form), False),
                            (("apart", self.chain, form, tall("h", DEPTH - 1, C)), True), (("apart", self.chain, form, self.form), False),
                            (("bars", self.chain, form, ((0,) * (DEPTH + 1),)), True), (("bars", self.chain, form, ()), False)):
            self.assertIs(shallow(stands, claim), good)
            if not good:
                self.assertIs(shallow(is_paper_against, claim, shallow(paper_against, claim)), True)
            elif claim[0] != "apart":
                self.assertIs(shallow(is_reason_for, claim, shallow(reason_for, claim)), True)

    def test_houses(self):
        book = (("f", ()),)
        house, reply = ((("f", 1), ()), ()), tall("g", DEPTH, ())
        one = shallow(with_call, book, house, (1,), reply)
        two = shallow(with_call, book, house, (1,), tall("g", DEPTH, ()))
        self.assertTrue(equal(shallow(shared_house, book, one, two), one))
        self.assertTrue(equal(shallow(joined_house, book, one, two), one))
        self.assertTrue(equal(shallow(cell_form, book, one, (1,)), reply))
        self.assertIs(shallow(is_done, book, one), False)
        board = Board(book, house)
        board.send((1,))
        shallow(board.come, (1,), reply)
        shallow(board.undo)
        shallow(board.redo)
        self.assertTrue(equal(board.house(), one))
        board.send((0,))
        shallow(board.come, (0,), 0)
        self.assertTrue(equal(board.shown(), tall("g", DEPTH, ())))


class Order(unittest.TestCase):
    """What is flat is compared as Python compares tuples."""

    def test_flat(self):
        rows = forms_of((("a", 0), ("b", 0), ("f", 2), ("g", 1), ("g", 2)), 5)[::3] + [(), ("a",), ("ab",), ("a", ()), ("a", (), ())]
        rows += [(number,) * many for number in (0, 1, 2, 10) for many in range(4)][1:]
        forms = [row for row in rows if not row or isinstance(row[0], str)]
        places = [row for row in rows if not row or isinstance(row[0], int)]
        trees = [("found", form) for form in forms[:9]]
        trees += [("look", place, ((("a", number), tree),)) for tree in trees[:4] for place in places[:4] for number in (0, 1)]
        for things in (forms, places, trees, [(form, number) for form in forms[:12] for number in (0, 1, 2)], list(range(9))):
            for one, other in itertools.product(things[:90], repeat=2):
                self.assertIs(flat(one) < flat(other), one < other)
                self.assertIs(flat(one) == flat(other), one == other)
                self.assertIs(same(one, other), one == other)
            self.assertEqual(ascending(things + things[::-1]), tuple(sorted(set(things))))
        for sides in sides_of((("a", 0), ("f", 2), ("g", 1)), 3, 2):
            for row in itertools.permutations(sides):
                self.assertIs(is_sides(row), row == tuple(sorted(row)))

    def test_odd(self):
        for one, other in ((A, ["a"]), (("a", 1), ("a", "1")), (None, ()), ((None,), (None, None)), (("f", A), ("f", ["a"]))):
            self.assertIs(same(one, other), False)
            self.assertIs(same(other, one), False)
        for thing in (None, 7, "x", [], [1, [2]], (None, [()]), nested(tuple, 20)):
            self.assertIs(same(thing, thing), True)


class Calls(unittest.TestCase):

    def test_no_function_calls_itself(self):
        """No function of the package leads to itself, but a few that go a few calls deep at most."""
        found = set()
        for file in sorted(PACKAGE.glob("*.py")):
            bodies = {node.name: node for node in ast.walk(ast.parse(file.read_text())) if isinstance(node, ast.FunctionDef)}
            calls = {name: {own for own in called_in(bodies[name]) if own in bodies} for name in bodies}
            for name in bodies:
                seen, waiting = set(), list(calls[name])
                while waiting:
                    own = waiting.pop()
                    if own not in seen:
                        seen.add(own)
                        waiting.extend(calls[own])
                if name in seen:
                    found.add((file.name, name))
        self.assertEqual(found, BOUNDED)


def called_in(body):
    """The names of what is called in body: functions, methods of self, and those of what has a name."""
    for node in ast.walk(body):
        if isinstance(node, ast.Call) and isinstance(node.func, ast.Name):
            yield node.func.id
        elif isinstance(node, ast.Call) and isinstance(node.func, ast.Attribute) and isinstance(node.func.value, ast.Name):
            if node.func.attr != "__init__":
                yield node.func.attr


if __name__ == "__main__":
    unittest.main()
