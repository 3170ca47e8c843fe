"""[19]: CODE, the machine that runs it, the least CODE."""

import itertools
import random
import unittest

from notinvain.code import book_code, code_of, do_alike, first_state, is_code, least_code, ran, replied, run_code, trees_in
from notinvain.errors import CanNot, NoNumber, TooMany
from notinvain.looks import all_trees, asked_for, has_trees, tree_of
from notinvain.needs import needed_tasks
from notinvain.runs import is_ended, is_run, led
from tests.houses import BOTH, CHAIN, DEEP, ONE, RIGHT, STEPS, THREE, TURN
from tests.seeds import KEYS, plain_book, random_form
from tests.small import A, B, C, END, as_lists, mixed, more_things, odd_things, plain_put, plain_signs, plain_spots

PLAIN = (RIGHT, BOTH, ONE, DEEP, TURN, STEPS, (("c",),), (("c",), ("f", ("a",), ())), (("f", (), ()), ("g", ("k", ("a",), ()))),
         (("f", ("a",), ("b",), ("c",)), ("g", ("a",)), ("g", ("b",))), (("f", ("k", ("a",), ()), ()), ("f", ("k", ("b",), ("a",)), ("a",))))
LOOP, ALONE = (("test", (), ("a", 0), 0, 0),), (("leave",),)
KINDS = ("open", "test", "enter", "call", "parts", "leave")


def plain_rows(tree, first):
    """The rows of a TREE, the first one of this number."""
    if tree[0] == "found":
        return [("call", 3)]
    place, branches = tree[1], tree[2]
    rows = [("enter", place, 3, first + 1)] + [None] * len(branches) + [("leave",)]
    for number, (sign, own) in enumerate(branches):
        rows[1 + number] = ("test", place, sign, first + len(rows), first + 2 + number)
        rows = rows + plain_rows(own, first + len(rows))
    return rows


def plain_code(trees):
    rows = [("enter", (), 3, 1), ("parts", 0, 2), ("leave",), ("open", 4)] + [None] * len(trees) + [("leave",)]
    for number, (sign, tree) in enumerate(trees):
        rows[4 + number] = ("test", (), sign, len(rows), 5 + number)
        rows = rows + plain_rows(tree, len(rows))
    return tuple(rows)


def plain_ran(code, state, most=5000):
    """The STATE, the PLACE and how many rows were done ahead; "no place" or None where it runs on."""
    form, row, here, stack = state
    stack, spots = list(stack), plain_spots(form)
    for done in range(most):
        own = code[row]
        if own[0] == "open" and spots[here] == ():
            return (form, row, here, tuple(stack)), here, done
        if own[0] == "call":
            return (form, own[1], here, tuple(stack)), here, done
        if own[0] == "leave":
            if not stack:
                return (form, row, here, ()), None, done
            row, here = stack.pop()
            if here not in spots:
                return "no place"
        elif own[0] == "open":
            row = own[1]
        elif own[0] == "test":
            part = spots.get(here + own[1], ())
            row = own[3] if part != () and (part[0], len(part) - 1) == own[2] else own[4]
        elif own[0] == "enter":
            stack.append((own[3], here))
            row, here = own[2], here + own[1]
            if here not in spots:
                return "no place"
        else:
            for number in range(len(spots[here]) - 1, 0, -1):
                stack.append((own[1], here + (number - 1,)))
            row = own[2]
    return None


def random_code(rnd, many, odd=0.4):
    """A CODE of so many rows."""
    rows, number = [], lambda: rnd.randrange(many)
    for _ in range(many):
        kind = rnd.choice(KINDS)
        place = () if rnd.random() > odd else rnd.choice(((0,), (1,), (0, 0)))
        rows.append({"open": ("open", number()), "call": ("call", number()), "leave": ("leave",),
                     "test": ("test", place, rnd.choice((("f", 2), ("a", 0))), number(), number()),
                     "enter": ("enter", place, number(), number()), "parts": ("parts", number(), number())}[kind])
    return tuple(rows)


def split_row(row):
    """A row but for its numbers of rows, and these."""
    first = {"open": 1, "test": 3, "enter": 2, "call": 1, "parts": 1, "leave": 1}[row[0]]
    return row[:first], row[first:]


def unlike_rows(code, other):
    """The pairs of rows of two CODES that are unlike, found step by step."""
    found = {(one, two) for one in range(len(code)) for two in range(len(other))
             if split_row(code[one])[0] != split_row(other[two])[0]}
    while True:
        more = {(one, two) for one in range(len(code)) for two in range(len(other)) if (one, two) not in found
                and any(pair in found for pair in zip(split_row(code[one])[1], split_row(other[two])[1]))}
        if not more:
            return found
        found |= more


def all_calls(code, form, answers, many):
    """All that the machine tells, with all rows of so many answers."""
    out, waiting = [], [(first_state(form), ())]
    while waiting:
        state, before = waiting.pop()
        try:
            state, place = ran(code, state)
        except (TooMany, CanNot) as error:
            out.append((before, type(error).__name__))
            continue
        out.append((before, state[0], place))
        if place is not None and len(before) < many:
            waiting.extend((replied(state, answer), before + ((place, answer),)) for answer in answers)
    return out


class Examples(unittest.TestCase):

    def test_one(self):
        code = book_code(ONE)
        self.assertEqual((len(code), code[4:9]),
                         (15, (('test', (), ('f', 2), 6, 5), ('leave',), ('enter', (0,), 3, 7), ('test', (0,), ('a', 0), 10, 8),
                               ('test', (0,), ('b', 0), 14, 9))))
        form = ("f", ("f", (), ()), ())
        self.assertEqual(run_code(code, form, (("a",), ("b",), ("b",), ("g", ()), ("end",))),
                         (('g', ('end',)), ((0, 0), (0, 1), (0,), (), (0,)), None))
        self.assertEqual(ran(code, first_state(form)),
                         ((('f', ('f', (), ()), ()), 3, (0, 0), ((1, ()), (7, ()), (7, (0,)))), (0, 0)))
        least = least_code(code)
        self.assertEqual((len(least), least[:3], least[7:]),
                         (11, (('enter', (), 1, 10), ('open', 2), ('test', (), ('f', 2), 3, 8)),
                          (('call', 1), ('leave',), ('test', (0,), ('b', 0), 7, 8), ('parts', 0, 8))))
        self.assertEqual((trees_in(code) == ((("f", 2), tree_of(ONE, ("f", 2))),), trees_in(least), do_alike(code, least)),
                         (True, None, True))


class Things(unittest.TestCase):

    def test_codes(self):
        rnd = random.Random(1)
        for code in [random_code(rnd, rnd.randint(1, 7)) for _ in range(300)] + [book_code(book) for book in PLAIN] + [LOOP, ALONE]:
            self.assertIs(is_code(code), True)
            self.assertIs(is_code(list(code)), False)
            self.assertIs(is_code(as_lists(code)), False)
            number = rnd.randrange(len(code))
            row, many = code[number], len(code)
            for at in range(len(row)):
                for other in (True, None, -1, many, "x", "", [], ["f", 1], ("F", 1), ("f", 4), ("f", -1), ("f", True), ("f", 1, 1),
                              (3,), (0, -1), (True,), (0, None), [0], ("a",), ("mark",), list(row)):
                    own = code[:number] + (row[:at] + (other,) + row[at + 1:],) + code[number + 1:]
                    self.assertIs(is_code(own), False, own)
            for other in (row + (0,), row[:-1], list(row), row[::-1] + ("",), (), (row,), row[0], None, row[1:], row * 2,
                          ("goto",) + row[1:], ("Leave",), ("mark",)):
                self.assertIs(is_code(code[:number] + (other,) + code[number + 1:]), False, other)
            self.assertIs(is_code(code + code), True)

    def test_signs_and_places(self):
        for sign in (("mark", 0), ("end", 3), ("abcdefgh", 1)):
            self.assertIs(is_code((("test", (0, 1, 2) * 9, sign, 0, 0),)), True)
        for row in (("test", (3,), ("a", 0), 0, 0), ("test", (), ("abcdefghi", 0), 0, 0), ("test", (), (), 0, 0), ("test", (), None, 0, 0),
                    ("enter", (0, 3), 0, 0), ("enter", 0, 0, 0), ("enter", (), 0, 1), ("call", 1), ("open", -1), ("open", False),
                    ("parts", 0), ("parts", 0, 1), ("leave", 0), ("leave"), ("test", (), ["a", 0], 0, 0), (["leave"],)):
            self.assertIs(is_code((row,)), False, row)

    def test_odd_things(self):
        for thing in odd_things() + more_things():
            self.assertIs(is_code(thing), False)
            self.assertIs(is_code((thing,)), False)
            self.assertIs(is_code((thing, ("leave",))), False)
            self.assertIs(is_code((("test", thing, ("a", 0), 0, 0),)), thing in ((), (0,), (1, 2)) and type(thing) is tuple
                          and all(type(own) is int for own in thing))
            self.assertIs(is_code((("test", (), thing, 0, 0),)), thing == ("f", 0) and type(thing[1]) is int)
            self.assertIs(is_code((("call", thing),)), type(thing) is int and thing == 0)
        self.assertIs(is_code(()), False)
        self.assertIs(is_code((("leave",),) * 3000), True)


class Trees(unittest.TestCase):

    def test_code_of(self):
        for book in PLAIN:
            signs = sorted({(side[0], len(side) - 1) for side in book})
            rows = [[(sign, tree) for tree in all_trees(book, sign)] for sign in signs]
            for trees in itertools.islice(itertools.product(*rows), 40):
                code = plain_code(trees)
                self.assertEqual(code_of(trees), code)
                self.assertEqual(code_of(as_lists(trees)), code)
                self.assertIs(is_code(code), True)
                self.assertEqual(trees_in(code), trees)
                self.assertEqual(trees_in(as_lists(code)), trees)
                for size in range(len(trees)):
                    own = trees[:size]
                    self.assertEqual((code_of(own), trees_in(code_of(own))), (plain_code(own), own))
            self.assertEqual(book_code(book), plain_code([(sign, tree_of(book, sign)) for sign in signs]))
            self.assertEqual(book_code(as_lists(book)), book_code(book))

    def test_none(self):
        code = (("enter", (), 3, 1), ("parts", 0, 2), ("leave",), ("open", 4), ("leave",))
        self.assertEqual((code_of(()), book_code(()), trees_in(code)), (code, code, ()))

    def test_errors(self):
        for book in (THREE, KEYS, CHAIN[:0] + (("f", ("f", ("a",))),)):
            self.assertRaises(CanNot, book_code, book)
        self.assertEqual(book_code(CHAIN), plain_code([(sign, tree_of(CHAIN, sign)) for sign in (("f", 1), ("h", 1))]))

    def test_spoiled(self):
        """What is read back is that of which the CODE is code_of, or nothing."""
        rnd, told = random.Random(2), 0
        for book in PLAIN * 12:
            code = book_code(book)
            number = rnd.randrange(len(code))
            row = list(code[number])
            at = rnd.randrange(len(row)) if len(row) > 1 else 0
            if at:
                row[at] = {int: lambda: rnd.randrange(len(code)), tuple: lambda: rnd.choice(((0,), (1,), (), ("a", 0), ("f", 2), ("b", 0), ("end", 0)))}[
                    type(row[at])]()
            own = code[:number] + (tuple(row),) + code[number + 1:]
            if rnd.random() < 0.3:
                own = rnd.choice((own + (("leave",),), own + (("call", 3),), code[:number] + code[number + 1:], code[:4] + code[5:]))
            if not is_code(own):
                continue
            trees = trees_in(own)
            told += trees is None
            if trees is not None:
                self.assertEqual(plain_code(trees), own)
                sides = tuple(sorted(found(trees)))
                self.assertTrue(plain_book(sides))
                self.assertTrue(has_trees(sides))
        self.assertGreater(told, 20)

    def test_no_trees(self):
        look = ("look", (0,), ((("a", 0), ("found", ("f", A, ()))),))
        for trees in (((("f", 2), look), (("f", 2), look)), ((("g", 1), ("found", ("g", ()))), (("f", 2), look)),
                      ((("end", 1), ("found", ("end", ()))),), ((("f", 2), ("look", (0,), ((("mark", 0), ("found", ("f", ("mark",), ()))),))),),
                      ((("f", 2), ("look", (0,), ())),), ((("a", 0), ("found", A)), (("f", 2), look)),
                      ((("f", 2), ("look", (0,), ((("b", 0), ("found", ("f", B, ()))), (("a", 0), ("found", ("f", A, ())))))),),
                      ((("f", 2), ("look", (2,), ((("a", 0), ("found", ("f", A, ()))),))),),
                      ((("f", 2), ("look", (0,), ((("f", 1), ("found", ("f", ("f", ()), ()))),))), (("f", 1), ("found", ("f", ())))),
                      # The SIDES f(g(a)) and g(b) are a BOOK, but no plain one.
                      ((("f", 1), ("look", (0,), ((("g", 1), ("look", (0, 0), ((("a", 0), ("found", ("f", ("g", A)))),))),))),
                       (("g", 1), ("look", (0,), ((("b", 0), ("found", ("g", B))),)))),
                      ((("f", 2), ("look", (0,), ((("a", 0), ("look", (0,), ((("a", 0), ("found", ("f", A, ()))),))),))),),
                      ((("f", 2), ("look", (), ((("a", 0), ("found", A)),))),),
                      ((("f", 2), ("look", (0,), ((("g", 1), ("look", (0,), ((("a", 0), ("found", ("f", A, ()))),))),))),)):
            code = plain_code(trees)
            self.assertIs(is_code(code), True)
            self.assertIsNone(trees_in(code), trees)
        for code in (LOOP, ALONE, code_of(())[:4] + (("call", 3),), code_of(())[::-1], (("enter", (0,), 0, 0),) * 5):
            self.assertIsNone(trees_in(code))
        # Looks within looks, all at one PLACE.
        rows = [("enter", (), 3, 1), ("parts", 0, 2), ("leave",), ("open", 4), ("test", (), ("g", 1), 6, 5), ("leave",)]
        for _ in range(1500):
            rows += [("enter", (0,), 3, len(rows) + 1), ("test", (0,), ("a", 0), len(rows) + 3, len(rows) + 2), ("leave",)]
        rows = tuple(rows + [("call", 3)])
        self.assertIs(is_code(rows), True)
        self.assertIsNone(trees_in(rows))
        # Rows that belong to two looks at once.
        shared = (("enter", (), 3, 1), ("parts", 0, 2), ("leave",), ("open", 4), ("test", (), ("f", 2), 7, 5), ("test", (), ("g", 2), 7, 6),
                  ("leave",), ("enter", (0,), 3, 8), ("test", (0,), ("a", 0), 10, 9), ("leave",), ("call", 3))
        self.assertIsNone(trees_in(shared))


def found(trees):
    """The SIDES found in pairs of a SIGN and a TREE."""
    rows = [tree for sign, tree in trees]
    while any(row[0] == "look" for row in rows):
        rows = [own for row in rows for own in ([row] if row[0] == "found" else [branch for sign, branch in row[2]])]
    return [side for word, side in rows]


class Machine(unittest.TestCase):

    def test_beside_a_plain_one(self):
        rnd, kinds = random.Random(3), set()
        for _ in range(1500):
            code = random_code(rnd, rnd.randint(1, 8))
            form = random_form(rnd, (("f", 2), ("g", 1)), 3)
            places = sorted(plain_spots(form))
            stack = tuple((rnd.randrange(len(code)), rnd.choice(places + [(2,), (0, 2)])) for _ in range(rnd.randint(0, 3)))
            state = (form, rnd.randrange(len(code)), rnd.choice(places), stack)
            own = plain_ran(code, state)
            kinds.add(own if own in (None, "no place") else own[1] is None)
            if own is None or own != "no place" and own[2] > 2000:
                self.assertRaises(TooMany, ran, code, state)
            elif own == "no place":
                self.assertRaises(CanNot, ran, code, state)
            else:
                self.assertEqual(ran(code, state), own[:2])
                self.assertEqual(ran(as_lists(code), as_lists(state)), own[:2])
                self.assertEqual(ran(state=state, code=code), own[:2])
        self.assertEqual(kinds, {None, "no place", True, False})

    def test_states(self):
        form = ("f", (), A)
        self.assertEqual(first_state(form), (form, 0, (), ()))
        self.assertEqual(first_state(as_lists(form)), (form, 0, (), ()))
        state = (form, 3, (0,), ((1, ()), (2, (1,))))
        self.assertEqual(replied(state, ("g", ())), (("f", ("g", ()), A), 3, (0,), ((1, ()), (2, (1,)))))
        self.assertEqual(replied(as_lists(state), ["g", []]), replied(state, ("g", ())))
        self.assertEqual(replied((form, 1, (), ()), ()), ((), 1, (), ()))
        self.assertEqual(ran(ALONE, (form, 0, (1,), ())), ((form, 0, (1,), ()), None))
        self.assertEqual(ran(ALONE, ran(ALONE, (form, 0, (1,), ((0, (0,)),)))[0]), ((form, 0, (0,), ()), None))

    def test_no_number(self):
        for number in (15, 16, 99, -1, 10 ** 6):
            with self.assertRaises(NoNumber) as caught:
                ran(book_code(ONE), (("f", (), ()), number, (), ()))
            self.assertEqual(caught.exception.number, number)
        # Ahead of all else: of what would come of the rows, too.
        self.assertRaises(NoNumber, ran, LOOP, ((), 1, (), ((7, (5,)),)))
        self.assertRaises(TooMany, ran, LOOP, ((), 0, (), ()))

    def test_no_place(self):
        for code in ((("enter", (0,), 0, 0),), (("enter", (), 1, 0), ("enter", (1,), 0, 0))):
            self.assertRaises(CanNot, ran, code, ((), 0, (), ()))
            self.assertRaises(CanNot, run_code, code, (), ())
        self.assertRaises(CanNot, ran, ALONE, (A, 0, (), ((0, (0,)),)))
        code = (("enter", (0,), 1, 2), ("call", 1), ("leave",))
        self.assertEqual(run_code(code, ("g", ()), (A, B)), (("g", B), ((0,), (0,)), (0,)))
        # A test where there is no PLACE goes on by its last number.
        self.assertEqual(ran((("test", (1, 1), ("a", 0), 0, 1), ("leave",)), (A, 0, (), ())), ((A, 1, (), ()), None))

    def test_2000_rows(self):
        for last, kind in ((("call", 0), ()), (("leave",), None), (("open", 0), ())):
            for many in (0, 1, 1999, 2000, 2001, 2500):
                code = tuple(("test", (), ("a", 0), number + 1, number + 1) for number in range(many)) + (last,)
                state = ((), 0, (), ())
                if many > 2000:
                    self.assertRaises(TooMany, ran, code, state)
                    self.assertRaises(TooMany, run_code, code, (), (A,))
                    continue
                after = {"call": 0, "leave": many, "open": many}[last[0]]
                self.assertEqual(ran(code, state), (((), after, (), ()), kind))
        # Of each CALL anew.
        code = tuple(("test", (), ("a", 0), number + 1, number + 1) for number in range(2000)) + (("call", 0),)
        self.assertEqual(run_code(code, (), (A, B, ())), ((), ((), (), ()), ()))

    def test_deep_stacks(self):
        code = (("parts", 0, 1), ("leave",))
        form = ()
        for _ in range(300):
            form = ("g", form)
        self.assertEqual(ran(code, first_state(form))[1], None)
        self.assertEqual(run_code(code, ("f", ("f", A, B), C), (A,)), (("f", ("f", A, B), C), (), None))

    def test_run_code(self):
        rnd = random.Random(4)
        for _ in range(500):
            code, form = random_code(rnd, rnd.randint(1, 6), 0.2), random_form(rnd, (("f", 2), ("g", 1)), 2)
            answers = tuple(rnd.choice((A, B, (), ("f", (), A), ("g", ()))) for _ in range(rnd.randint(0, 5)))
            state, places, wrong = (form, 0, (), ()), [], None
            while True:
                own = plain_ran(code, state)
                if own is None or own == "no place" or own[2] > 2000:
                    wrong = CanNot if own == "no place" else TooMany
                    break
                state, place = own[:2]
                if place is None or len(places) == len(answers):
                    break
                state = (plain_put(state[0], place, answers[len(places)]),) + state[1:]
                places.append(place)
            if wrong:
                self.assertRaises(wrong, run_code, code, form, answers)
            else:
                self.assertEqual(run_code(code, form, answers), (state[0], tuple(places), place))
                self.assertEqual(run_code(*map(as_lists, (code, form, answers))), (state[0], tuple(places), place))
                self.assertEqual(run_code(answers=mixed(answers), form=form, code=mixed(code)), (state[0], tuple(places), place))


class ByNeed(unittest.TestCase):

    def codes(self):
        """CODES of plain BOOKS that always need, with all their TREES."""
        for book in PLAIN + (CHAIN, ()):
            signs = sorted({(side[0], len(side) - 1) for side in book})
            rows = [[(sign, tree) for tree in all_trees(book, sign)] for sign in signs]
            for trees in itertools.islice(itertools.product(*rows), 8):
                yield book, code_of(trees)

    def check(self, book, code, form, rnd, is_least):
        signs = sorted(plain_signs(book) | {("k", 2), ("end", 0)})
        state, run = first_state(form), []
        for _ in range(12):
            state, place = ran(code, state)
            left = state[0]
            self.assertEqual(place is None, is_ended(book, left))
            if place is None:
                break
            self.assertIn(place, needed_tasks(book, left))
            if is_least:
                self.assertEqual(place, min(asked_for(book, left)))
            answer = rnd.choice((A, B, END, (), random_form(rnd, signs, 2), rnd.choice(book) if book else ()))
            run.append((place, answer))
            state = replied(state, answer)
        self.assertIs(is_run(book, form, tuple(run)), True)
        self.assertEqual(led(book, form, tuple(run)), state[0])
        answers = tuple(answer for place, answer in run)
        told = run_code(code, form, answers)
        self.assertEqual(told[:2], (state[0], tuple(place for place, answer in run)))
        return run

    def test_guarantees(self):
        rnd, calls = random.Random(5), 0
        for book, code in self.codes():
            signs = sorted(plain_signs(book) | {("k", 2), ("m", 3)})
            for _ in range(60):
                calls += len(self.check(book, code, random_form(rnd, signs, 3), rnd, code == book_code(book)))
                self.check(book, least_code(code), random_form(rnd, signs, 3), rnd, code == book_code(book))
        self.assertGreater(calls, 2000)


class Least(unittest.TestCase):

    def test_beside_a_search(self):
        rnd, alike = random.Random(6), [0, 0]
        codes = [random_code(rnd, rnd.randint(1, 5), 0.1) for _ in range(250)]
        codes += [tuple(("open" if rnd.random() < 0.8 else "call", rnd.randrange(4)) for _ in range(4)) for _ in range(60)]
        codes += [tuple(("parts", rnd.randrange(6), rnd.randrange(6)) if number else ("call", rnd.randrange(6)) for number in range(6)) for _ in range(60)]
        for code in codes:
            least = least_code(code)
            self.assertIs(is_code(least), True)
            self.assertNotIn((0, 0), unlike_rows(code, least))
            self.assertIs(do_alike(code, least), True)
            self.assertEqual(least_code(least), least)
            own = unlike_rows(least, least)
            self.assertEqual(len(own), len(least) * (len(least) - 1))
            self.assertEqual(least, numbered(least))
            self.assertEqual(least_code(as_lists(code)), least)
        for _ in range(4000):
            code, other = rnd.choice(codes), rnd.choice(codes)
            told = (0, 0) not in unlike_rows(code, other)
            alike[told] += 1
            self.assertIs(do_alike(code, other), told)
            self.assertEqual(least_code(code) == least_code(other), told)
        self.assertGreater(min(alike), 20)

    def test_turned_rows(self):
        """The rows of a CODE in another order, some of them twice, and some that are never reached."""
        rnd = random.Random(7)
        for book in PLAIN:
            code = book_code(book)
            for _ in range(6):
                order = list(range(len(code))) + [rnd.randrange(len(code)) for _ in range(5)]
                rnd.shuffle(order)
                order.remove(0)
                order.insert(0, 0)
                homes = {number: [at for at, own in enumerate(order) if own == number] for number in range(len(code))}
                other = []
                for number in order:
                    rest, numbers = split_row(code[number])
                    other.append(rest + tuple(rnd.choice(homes[own]) for own in numbers))
                other = tuple(other) + (("open", 0),)
                self.assertIs(is_code(other), True)
                self.assertIs(do_alike(code, other), True)
                self.assertEqual(least_code(other), least_code(code))
                self.assertLessEqual(len(least_code(code)), len(code))
                form = random_form(rnd, sorted(plain_signs(book) | {("k", 2)}), 2)
                told = [all_calls(own, form, (A, ()), 3) for own in (code, other, least_code(code))]
                self.assertEqual(told, [told[0]] * 3)

    def test_same_calls(self):
        rnd = random.Random(8)
        for _ in range(120):
            code = random_code(rnd, rnd.randint(2, 6), 0.1)
            form = random_form(rnd, (("f", 2), ("g", 1)), 2)
            self.assertEqual(all_calls(code, form, (A, ("f", (), A)), 3), all_calls(least_code(code), form, (A, ("f", (), A)), 3))

    def test_no_fewer(self):
        """No CODE of fewer rows has such a row 0: all CODES of one and two rows are tried."""
        rows = lambda many: [("leave",)] + [(word, number) for word in ("open", "call") for number in range(many)] + [
            ("parts", one, two) for one in range(many) for two in range(many)]
        ones, twos = [(row,) for row in rows(1)], list(itertools.product(rows(2), repeat=2))
        for code in twos:
            least = least_code(code)
            fits = [own for own in ones if (0, 0) not in unlike_rows(own, code)]
            self.assertEqual(len(least) == 1, bool(fits))
        threes = list(itertools.product(rows(3), repeat=3))
        for code in random.Random(9).sample(threes, 250):
            least = len(least_code(code))
            self.assertEqual(least < 3, any((0, 0) not in unlike_rows(own, code) for own in ones + twos))

    def test_long(self):
        many = 3000
        chain = tuple(("test", (), ("a", 0), number + 1, 0) for number in range(many)) + (("call", 0),)
        self.assertEqual(least_code(chain), chain)
        ring = tuple(("open", (number + 1) % many) for number in range(many))
        self.assertEqual(least_code(ring), (("open", 0),))
        self.assertIs(do_alike(ring, (("open", 1), ("open", 0))), True)
        self.assertIs(do_alike(ring, chain), False)


def numbered(code):
    """code with its rows as they are first met, each with all that are met from it."""
    order = []

    def meet(number):
        if number not in order:
            order.append(number)
            for own in split_row(code[number])[1]:
                meet(own)
    meet(0)
    rows = [split_row(code[number]) for number in order]
    return tuple(rest + tuple(order.index(own) for own in numbers) for rest, numbers in rows)


if __name__ == "__main__":
    unittest.main()
