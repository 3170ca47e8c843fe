"""[20]: one judge for all CLAIMS, PAPERS and REASONS."""

import itertools
import random
import unittest

from notinvain.always import always_needs, lacks
from notinvain.blots import is_whole, strikes_by
from notinvain.cells import causes, is_done
from notinvain.errors import TooMany, Unfit
from notinvain.forms import joined
from notinvain.judge import first_fallen, is_claim, is_paper_against, is_reason_for, paper_against, reason_for, stands
from notinvain.looks import all_trees, is_stuck
from notinvain.lots import bars
from notinvain.rows import are_alike, closed_table, does_part
from notinvain.runs import is_ended, is_standing, led, tasks
from notinvain.worlds import are_rounds, by_hands, in_vain, least_lot, longest_chain, lot_ends, wanted
from tests.houses import BOOKS, BOTH, CHAIN, DEEP, ONE, RIGHT, THREE, TURN, houses, random_world
from tests.seeds import KEYS, LONG, PAIRED, random_form
from tests.small import A, B, C, END, MARK, SIGNS, as_lists, forms_of, mixed, more_things, odd_things, plain_agree, plain_bars
from tests.small import plain_blot, plain_due, plain_ended, plain_lies, plain_marked, plain_needed, plain_put, plain_spots
from tests.small import plain_tasks, runs_of, subsets
from tests.test_follows import closed, random_books, random_sides
from tests.test_worlds import further_lots

# Here a BOOK has to be a set.
BOOKS = tuple(tuple(sorted(book)) for book in BOOKS)
STEPS = (("h", ("k", ("a",))), ("h", ("k", ("k", ()))))
WIDE = ("f", (), (), ())
HOUSE, WORLD = ((("f", 1, 2), (), ()), ()), (((2,), B),)
ENDED = (HOUSE[0], (((0,), END), ((2,), B)))
TOO_MANY = (("f", (), ("a",), ("f", ("b",), ("b",), ())), ("f", ("a",), ("b",), ("c",)))
NOT_PLAIN = (("f", ("f", ("a",))),)
SIXTY = tuple(((0,) * (number + 1), ()) for number in range(60))
WITH_REASONS = ("shown", "bars", "always", "tree", "follows", "rounds")
# One CLAIM of each word that stands, and one that does not.
STANDING = (("shown", BOTH, ("f", C, ()), ("f", C, ())), ("apart", BOTH, A, ("g",)), ("bars", THREE, WIDE, ((0,), (2,))),
            ("always", RIGHT), ("alike", (("f", A), ("f", B)), ("g", A), ("g", B)), ("tree", RIGHT, ("f", 2)),
            ("follows", CHAIN, (("f", ("h", ())),)), ("wants", RIGHT, HOUSE, WORLD, ((2,),)), ("rounds", RIGHT, ENDED, 1))
FALLEN = (("shown", BOTH, ("f", A, ()), ("f", (), ())), ("apart", BOTH, (), ()), ("bars", THREE, WIDE, ((1,),)),
          ("always", THREE), ("alike", THREE, A, B), ("tree", THREE, ("f", 3)), ("follows", (("f", ("h", ())),), CHAIN),
          ("wants", RIGHT, HOUSE, WORLD, ((1,), (2,))), ("rounds", RIGHT, ENDED, 2))


def came(deed, *row):
    try:
        return ("returned", deed(*row))
    except (LookupError, ValueError) as error:
        return (type(error), vars(error))


def checked(claim):
    """Whether claim stands; what is told of it goes together."""
    told = stands(claim)
    paper = paper_against(claim)
    assert (paper is None) is told
    assert paper is None or is_paper_against(claim, paper) is True
    if claim[0] in WITH_REASONS:
        reason = came(reason_for, claim)
        assert reason[0] == ("returned" if told else Unfit), (claim, reason)
        assert not told or is_reason_for(claim, reason[1]) is True
    else:
        assert came(reason_for, claim)[0] is Unfit and came(is_reason_for, claim, ())[0] is Unfit
    return told


class Examples(unittest.TestCase):

    def test_forms(self):
        both, right, wide = (("f", ("a",), ("b",)),), (("f", (), ("b",)),), ("f", (), (), ())
        three = (("f", (), ("a",), ("b",)), ("f", ("a",), ("b",), ()), ("f", ("b",), (), ("a",)))
        self.assertEqual((stands(("shown", both, ("f", ("c",), ()), ("f", ("c",), ()))), stands(("shown", both, ("f", ("a",), ()), ("f", (), ()))),
                          is_paper_against(("shown", both, ("f", ("a",), ()), ("f", (), ())), (((1,), ("b",)), ((), ("end",))))),
                         (True, False, True))
        self.assertEqual((stands(("apart", both, ("a",), ("g",))), is_paper_against(("apart", both, ("f", (), ("b",)), ("g",)), ("g",))),
                         (True, True))
        self.assertEqual((stands(("bars", three, wide, ((0,), (2,)))),
                          is_paper_against(("bars", three, wide, ((1,),)), (((0,), ("b",)), ((2,), ("a",)), ((), ("end",)))),
                          is_reason_for(("bars", three, wide, ((0,), (2,))), ())), (True, True, True))
        self.assertEqual((stands(("always", right)), is_paper_against(("always", three), wide), stands(("tree", three, ("f", 3))),
                          is_paper_against(("tree", three, ("f", 3)), wide), reason_for(("tree", right, ("f", 2)))),
                         (True, True, False, True, ('look', (1,), ((('b', 0), ('found', ('f', (), ('b',)))),))))

    def test_houses(self):
        right, three, both = RIGHT, THREE, BOTH
        house, world = ((("f", 1, 2), (), ()), ()), (((2,), ("b",)),)
        self.assertEqual((stands(("wants", right, house, world, ((2,),))), is_paper_against(("wants", right, house, world, ((1,), (2,))), ((0,), (2,)))),
                         (True, True))
        ended = (house[0], (((0,), ("end",)), ((2,), ("b",))))
        self.assertEqual((stands(("rounds", right, ended, 1)), paper_against(("rounds", right, ended, 2)), reason_for(("rounds", right, ended, 1))),
                         (True, (((2,),), ((0,),)), ((2,), (0,))))
        self.assertEqual((first_fallen((("always", right), ("apart", both, (), ())))[0], is_claim(("bars", three, WIDE, ((),))),
                          is_claim(("rounds", right, house, 1)), is_claim(("always", (("f", ()), ("f", ("a",)))))), (1, False, False, False))
        self.assertRaises(Unfit, stands, ("sure", right))


class Claims(unittest.TestCase):

    def test_each_word(self):
        for claim in STANDING:
            self.assertIs(checked(claim), True, claim)
        for claim in FALLEN:
            self.assertIs(checked(claim), False, claim)
        for claim in STANDING + FALLEN:
            self.assertIs(is_claim(claim), True)
            for deed in (stands, paper_against, reason_for, lambda own: is_paper_against(own, ()), lambda own: is_reason_for(own, ())):
                self.assertEqual(came(deed, as_lists(claim)), came(deed, claim))
                self.assertEqual(came(deed, mixed(claim)), came(deed, claim))
                self.assertEqual(came(deed, claim), came(deed, claim))
            own = as_lists(claim)
            stands(own), paper_against(own), came(reason_for, own), is_paper_against(own, A)
            self.assertEqual(own, as_lists(claim))

    def spoiled(self, claim):
        """The CLAIM with one part changed, cut, turned, put twice, or of another kind."""
        for at in range(len(claim)):
            for other in (None, True, -1, 0, "x", "", [], (), (0,), ((0,),), ((),), ("F",), ["f"], MARK, ("g", MARK), (MARK,), list(claim[at])
                          if isinstance(claim[at], (tuple, str)) else [claim[at]], (claim[at],), claim[at] * 2, (claim[at], claim[at])):
                yield claim[:at] + (other,) + claim[at + 1:]
        yield from (claim[:-1], claim + ((),), claim[::-1], list(claim), claim * 2, claim[1:], (claim,), as_lists(claim), (claim[0].upper(),) + claim[1:],
                    (list(claim[0]),) + claim[1:], ((claim[0],),) + claim[1:])

    def plain_claim(self, thing):
        """Whether thing is a CLAIM, by the table."""
        try:
            return self.by_table(thing)
        except (TypeError, IndexError, ValueError, AttributeError, KeyError):
            return False

    def by_table(self, thing):
        from notinvain.books import is_book, is_plain, is_sides
        from notinvain.cells import is_cell_name, is_house
        from notinvain.forms import is_form
        from notinvain.worlds import is_world

        def form(own):
            return is_form(own) and "mark" not in [part[0] for part in plain_spots(own).values() if part]

        def ascends(own):
            return type(own) is tuple and all(own[at] < own[at + 1] for at in range(len(own) - 1))
        if type(thing) is not tuple or type(thing[0]) is not str:
            return False
        word, sides, row = thing[0], thing[1], thing[2:]
        if word in ("shown", "apart"):
            return len(row) == 2 and is_sides(sides) and form(row[0]) and form(row[1])
        if word == "follows":
            return len(row) == 1 and is_sides(sides) and is_sides(row[0])
        if not is_book(sides):
            return False
        if word == "bars":
            return len(row) == 2 and form(row[0]) and ascends(row[1]) and all(
                type(place) is tuple and all(type(own) is int for own in place) and place in plain_tasks(sides, row[0]) for place in row[1])
        if word == "always":
            return row == ()
        if word == "alike":
            return len(row) == 2 and form(row[0]) and form(row[1]) and not plain_due(sides, row[0]) and not plain_due(sides, row[1])
        if word == "tree":
            return len(row) == 1 and is_plain(sides) and type(row[0]) is tuple and [type(own) for own in row[0]] == [str, int] and row[0] in [
                (side[0], len(side) - 1) for side in sides]
        if word == "wants":
            return len(row) == 3 and is_house(sides, row[0]) and is_world(row[1]) and ascends(row[2]) and all(is_cell_name(own) for own in row[2])
        return word == "rounds" and len(row) == 2 and is_house(sides, row[0]) and is_done(sides, row[0]) and type(row[1]) is int

    def test_spoiled(self):
        told = [0, 0]
        for claim in STANDING + FALLEN:
            for thing in self.spoiled(claim):
                own = self.plain_claim(thing)
                told[own] += 1
                self.assertIs(is_claim(thing), own, thing)
                if not own and self.plain_claim(tupled(thing)) is False:
                    for deed in (stands, paper_against, reason_for, lambda row: is_paper_against(row, ()), lambda row: is_reason_for(row, ()),
                                 lambda row: first_fallen((STANDING[0], row)), lambda row: first_fallen([FALLEN[0], row])):
                        self.assertRaises(Unfit, deed, thing)
        self.assertGreater(told[0], 1000)
        self.assertGreater(told[1], 40)

    def test_odd_things(self):
        for thing in odd_things() + more_things():
            self.assertIs(is_claim(thing), False)
            self.assertRaises(Unfit, stands, thing)
            for word in ("shown", "apart", "bars", "always", "alike", "tree", "follows", "wants", "rounds", "sure"):
                self.assertIs(is_claim((word, thing)), word == "always" and thing == ())
                self.assertIs(is_claim((thing, RIGHT)), False)
                for at in (1, 2, 3, 4):
                    for claim in STANDING:
                        if at < len(claim):
                            own = claim[:at] + (thing,) + claim[at + 1:]
                            self.assertIs(is_claim(own), self.plain_claim(own), own)

    def test_lots_and_numbers(self):
        for lot in ((), ((0,),), ((0,), (1,), (2,))):
            self.assertIs(is_claim(("bars", THREE, WIDE, lot)), True)
        for lot in (((),), ((1,), (0,)), ((0,), (0,)), ((3,),), ((0, 0),), ([0],), [(0,)], ((True,),), (0,), ((0,), None)):
            self.assertIs(is_claim(("bars", THREE, WIDE, lot)), False)
        for number in (0, 1, 2, 60, 10 ** 30, -1):
            self.assertIs(is_claim(("rounds", RIGHT, ENDED, number)), True)
        for number in (True, None, "1", (1,)):
            self.assertIs(is_claim(("rounds", RIGHT, ENDED, number)), False)
        for cells in ((), ((0,),), ((9, 9),), ((0,), (0, 1), (5,))):
            self.assertIs(is_claim(("wants", RIGHT, HOUSE, WORLD, cells)), True)
        for cells in (((),), ((1,), (0,)), ((-1,),), ([0],), [(0,)], ((0,), (0,)), (0,), None, ((False,),)):
            self.assertIs(is_claim(("wants", RIGHT, HOUSE, WORLD, cells)), False)
        self.assertIs(is_claim(("bars", RIGHT, ("f", (), B), ((),))), True)
        self.assertIs(is_claim(("alike", RIGHT, ("f", (), B), A)), False)
        self.assertIs(is_claim(("alike", RIGHT, A, ("f", (), B))), False)
        self.assertIs(is_claim(("tree", (("g", A),), ("g", 1))), True)
        self.assertIs(is_claim(("tree", (("g", A),), ("g", True))), False)
        self.assertIs(is_claim(("tree", NOT_PLAIN, ("f", 1))), False)
        self.assertIs(is_claim(("tree", RIGHT, ("b", 0))), False)
        self.assertIs(is_claim(("always", CHAIN + (("f", ("h", ())),))), False)
        self.assertIs(is_claim(("follows", (("f", ()), ("f", A)), (("f", ("f", ())),))), True)
        self.assertIs(is_claim(("shown", (("f", ()), ("f", A)), ("f", A), END)), True)


def tupled(value):
    return tuple(tupled(part) for part in value) if isinstance(value, (list, tuple)) else value


class Shown(unittest.TestCase):

    def test_beside_runs(self):
        """Of all short RUNS just those are PAPERS that lead to an END in which the other FORM does not lie."""
        rnd, told = random.Random(1), [0, 0]
        sides = [RIGHT, BOTH, CHAIN, DEEP, (), (("f", (), ()), ("f", A, ()), ("g", A))]
        forms = forms_of((("a", 0), ("f", 2), ("g", 1), ("h", 1)), 3)
        for _ in range(130):
            own, form, other = rnd.choice(sides), rnd.choice(forms), rnd.choice(forms[:12] + forms[-3:])
            claim = ("shown", own, form, other)
            told[checked(claim)] += 1
            self.assertEqual(stands(claim), plain_lies(other, plain_blot(own, form)))
            for run in runs_of(own, form, (A, B, END, ("g", ())), 2):
                left = form
                for place, answer in run:
                    left = plain_put(left, place, answer)
                paper = plain_ended(own, left) and not plain_lies(other, left)
                self.assertIs(is_paper_against(claim, run), paper)
                self.assertFalse(paper and stands(claim))
        self.assertGreater(min(told), 20)

    def test_random(self):
        rnd, told = random.Random(2), [0, 0]
        for _ in range(400):
            sides = random_sides(rnd, 3)
            form = random_form(rnd, SIGNS[2:] + (("h", 3),), 3)
            other = rnd.choice((plain_blot(sides, form), form, closed(plain_blot(sides, form)), random_form(rnd, SIGNS[2:], 1), END))
            claim = ("shown", sides, form, other)
            told[checked(claim)] += 1
            self.assertEqual(stands(claim), plain_lies(other, plain_blot(sides, form)))
            paper = paper_against(claim)
            if paper is not None:
                self.assertIs(is_ended(sides, led(sides, form, paper)), True)
                cut = [paper[:-1] + ((paper[-1][0], ()),), paper[0]] if paper else []
                for thing in [paper[:-1], paper + paper[:1], list(paper), paper + (((), A),), ()] + cut:
                    self.check_run(claim, thing)
        self.assertGreater(min(told), 60)

    def check_run(self, claim, thing):
        _, sides, form, other = claim
        from notinvain.runs import is_run
        good = is_run(sides, form, thing) and plain_ended(sides, led(sides, form, thing)) and not plain_lies(other, led(sides, form, thing))
        self.assertIs(is_paper_against(claim, thing), good)

    def test_reasons(self):
        rnd, many = random.Random(3), 0
        for _ in range(250):
            sides = random_sides(rnd, 3)
            form = random_form(rnd, SIGNS[2:] + (("h", 3),), 3)
            whole = plain_blot(sides, form)
            claim = ("shown", sides, form, whole)
            reason = reason_for(claim)
            places = sorted(plain_spots(form))
            rnd.shuffle(places)
            self.assertIs(is_reason_for(claim, strikes_by(sides, form, tuple(places))), True)
            many += bool(reason)
            for thing in (list(reason), reason + (((), 0),), reason[:-1] if reason else (0,), reason + reason if reason else None,
                          tuple(map(list, reason)) or None):
                self.assertIs(is_reason_for(claim, thing), thing == reason + (((), 0),) and is_whole(sides, form, thing), thing)
            self.assertIs(is_reason_for(("shown", sides, form, closed(form)), reason), plain_lies(closed(form), whole))
        self.assertGreater(many, 80)

    def test_joins(self):
        """What is shown for two FORMS is shown for their join."""
        rnd, many = random.Random(4), 0
        for _ in range(900):
            sides, form = random_sides(rnd, 3), random_form(rnd, SIGNS[2:] + (("h", 3),), 3)
            whole = plain_blot(sides, form)
            own = []
            for _ in range(2):
                part = whole
                for place in sorted(plain_spots(whole)):
                    if rnd.random() < 0.3 and place in plain_spots(part):
                        part = plain_put(part, place, ())
                own.append(part)
            self.assertTrue(all(stands(("shown", sides, form, part)) for part in own))
            self.assertIs(stands(("shown", sides, form, joined(*own))), True)
            many += joined(*own) not in own
        self.assertGreater(many, 20)


class Apart(unittest.TestCase):

    def test_beside_all(self):
        rnd, told = random.Random(5), [0, 0]
        forms = forms_of((("a", 0), ("f", 2), ("g", 1), ("h", 1)), 3)
        things = forms_of((("a", 0), ("end", 0), ("f", 2), ("g", 1), ("mark", 0)), 3)
        for _ in range(120):
            sides, one, two = rnd.choice([RIGHT, BOTH, CHAIN, DEEP, (), (("g", A),)]), rnd.choice(forms), rnd.choice(forms)
            claim = ("apart", sides, one, two)
            told[checked(claim)] += 1
            blots = plain_blot(sides, one), plain_blot(sides, two)
            self.assertEqual(stands(claim), not plain_agree(*blots))
            for thing in things:
                own = plain_ended(sides, thing) and all(plain_lies(part, thing) for part in blots) and MARK not in plain_spots(thing).values()
                self.assertIs(is_paper_against(claim, thing), own)
                self.assertIs(is_paper_against(claim, list(thing)), False)
                self.assertFalse(own and stands(claim))
        self.assertGreater(min(told), 20)


class Bars(unittest.TestCase):

    def test_beside_runs(self):
        rnd, told = random.Random(6), [0, 0]
        forms = forms_of((("a", 0), ("f", 2), ("g", 1), ("h", 1)), 4)
        for _ in range(150):
            book = rnd.choice([RIGHT, BOTH, CHAIN, DEEP])
            form = rnd.choice(forms)
            places = plain_tasks(book, form)
            lot = tuple(sorted(rnd.sample(places, rnd.randint(0, len(places)))))
            claim = ("bars", book, form, lot)
            told[checked(claim)] += 1
            self.assertEqual(stands(claim), plain_bars(book, form, lot))
            for run in runs_of(book, form, (A, B, END), 2):
                left = form
                for place, answer in run:
                    left = plain_put(left, place, answer)
                paper = plain_ended(book, left) and not any(place in lot for place, answer in run)
                self.assertIs(is_paper_against(claim, run), paper)
                self.assertFalse(paper and stands(claim))
        self.assertGreater(min(told), 20)

    def test_wide(self):
        for form in (WIDE, ("f", WIDE, (), ()), ("f", (), WIDE, A)):
            if not is_standing(THREE, form):
                continue
            for lot in subsets(tasks(THREE, form)):
                claim = ("bars", THREE, form, lot)
                self.assertIs(checked(claim), plain_bars(THREE, form, lot))
                paper = paper_against(claim)
                if paper:
                    for thing in (paper[:-1], list(paper), paper[::-1], paper + paper[-1:]):
                        self.assertIs(is_paper_against(claim, thing), False)

    def test_all_tasks(self):
        for book in (THREE, RIGHT, CHAIN, DEEP):
            for form in forms_of((("a", 0), ("f", 2), ("f", 3), ("h", 1)), 4):
                self.assertEqual(stands(("bars", book, form, tasks(book, form))), not is_ended(book, form))

    def test_reasons(self):
        rnd = random.Random(7)
        for book in (THREE, RIGHT, CHAIN, DEEP, BOTH):
            for form in forms_of((("a", 0), ("f", 2), ("f", 3), ("h", 1)), 4):
                lot = tasks(book, form)
                if not lot:
                    continue
                claim, places = ("bars", book, form, lot), sorted(plain_spots(plain_marked(form, lot)))
                rnd.shuffle(places)
                own = strikes_by(book, plain_marked(form, lot), tuple(places))
                self.assertIs(is_reason_for(claim, own), True)
                self.assertIs(is_reason_for(claim, list(own)), False)
                self.assertIs(is_reason_for(claim, own + (((), 0),)), False)
                self.assertIs(is_reason_for(("bars", book, form, ()), ()), False)


class Always(unittest.TestCase):

    def test_books(self):
        small, told = forms_of((("a", 0), ("b", 0), ("end", 0), ("f", 3), ("g", 1)), 4), [0, 0]
        for book in random_books(8, 60, 2, 5) + [THREE, RIGHT, CHAIN, DEEP, ONE, STEPS, TURN, ()]:
            try:
                own = always_needs(book)
            except TooMany:
                for deed in (stands, paper_against, reason_for):
                    self.assertRaises(TooMany, deed, ("always", book))
                self.assertIs(is_claim(("always", book)), True)
                is_paper_against(("always", book), WIDE), is_reason_for(("always", book), ())
                continue
            claim = ("always", book)
            told[own] += 1
            self.assertIs(checked(claim), own)
            if own:
                self.assertEqual(reason_for(claim), closed_table(book))
            for form in small:
                paper = () in plain_spots(form).values() and not plain_due(book, form) and not plain_needed(book, form)
                self.assertIs(is_paper_against(claim, form), paper)
                self.assertIs(lacks(book, form), paper)
                self.assertFalse(paper and own)
        self.assertGreater(told[1], 20)
        for thing in (list(WIDE), WIDE + ((),), MARK, ("f", (), (), MARK), None, ("lacks", (WIDE,)), 0):
            self.assertIs(is_paper_against(("always", THREE), thing), False)

    def test_reasons(self):
        table = closed_table(RIGHT)
        claim = ("always", RIGHT)
        self.assertIs(is_reason_for(claim, table), True)
        for thing in (table[:-1], table[1:], list(table), table[::-1], table + table[:1], ("always", table), (), None, tuple(map(list, table))):
            self.assertIs(is_reason_for(claim, thing), False)
        self.assertIs(is_reason_for(("always", THREE), closed_table(THREE)), False)

    def test_never_too_many(self):
        for book in (TOO_MANY, PAIRED):
            for claim in (("always", book), ("alike", book, A, B), ("alike", book, ("f", (), A), ("f", (), B))):
                self.assertIs(is_claim(claim), True)
                for deed in (stands, paper_against, lambda own: first_fallen((own,))):
                    self.assertRaises(TooMany, deed, claim)
                for thing in odd_things() + more_things() + [WIDE, (("f", (), A, A), (0,))]:
                    is_paper_against(claim, thing)
                    if claim[0] == "always":
                        is_reason_for(claim, thing)
            self.assertRaises(TooMany, reason_for, ("always", book))
            # Ahead of TooMany() there is no REASON for this word.
            self.assertRaises(Unfit, reason_for, ("alike", book, A, B))
            # Ahead of it all CLAIMS are looked at.
            self.assertRaises(Unfit, first_fallen, (("always", book), ("alike", book, A)))
            self.assertEqual(first_fallen((("apart", (), (), ()), ("always", book)))[0], 0)
            self.assertRaises(TooMany, first_fallen, (("always", RIGHT), ("always", book), ("apart", (), (), ())))
        claim = ("wants", RIGHT, (((),), ()), SIXTY, ())
        self.assertIs(is_claim(claim), True)
        self.assertRaises(TooMany, stands, claim)
        self.assertRaises(TooMany, paper_against, claim)
        self.assertRaises(Unfit, reason_for, claim)
        self.assertIs(is_paper_against(claim, ((0,),)), False)
        self.assertIs(stands(("wants", RIGHT, (((),), ()), SIXTY[:59], ((0,), (0, 0)))), True)
        self.assertIs(is_claim(("bars", THREE, ("f", WIDE, WIDE, ("f", WIDE, (), ())), ())), True)
        self.assertIs(stands(("bars", THREE, ("f", WIDE, WIDE, ("f", WIDE, (), ())), ())), False)


class Alike(unittest.TestCase):

    def test_forms(self):
        rnd, told = random.Random(9), [0, 0]
        forms = forms_of((("a", 0), ("b", 0), ("c", 0), ("f", 3), ("g", 1)), 4)
        for book in (THREE, RIGHT, DEEP, (("f", A), ("f", B))):
            own = [form for form in forms if is_standing(book, form)]
            for _ in range(40):
                claim = ("alike", book, rnd.choice(own), rnd.choice(own))
                told[checked(claim)] += 1
                self.assertIs(stands(claim), are_alike(*claim[1:]))
                paper = paper_against(claim)
                if paper is not None:
                    for thing in (list(paper), paper + ((),), (paper[0], list(paper[1])), (paper[0], paper[1] + (0,)), paper[0], (MARK, ()),
                                  (list(paper[0]), paper[1]), paper[:1], (paper,)):
                        self.assertIs(is_paper_against(claim, thing), False, thing)
                    above = ("k", paper[0], A), (0,) + paper[1]
                    self.assertIs(is_paper_against(claim, above), does_part(*claim[1:], above))
                    self.assertIs(is_paper_against(claim, (("k", paper[0], MARK), (0,) + paper[1])), False)
        self.assertGreater(min(told), 20)


class Trees(unittest.TestCase):

    def test_trees(self):
        for book in (THREE, RIGHT, BOTH, ONE, DEEP, TURN, STEPS, PAIRED, LONG):
            for sign in sorted({(side[0], len(side) - 1) for side in book}):
                claim = ("tree", book, sign)
                rows = all_trees(book, sign)
                self.assertIs(checked(claim), bool(rows))
                for tree in rows:
                    self.assertIs(is_reason_for(claim, tree), True)
                    for thing in (list(tree), tree[:1], tree + ((),), ("found", A), ("look", (5,), tree[-1])):
                        self.assertIs(is_reason_for(claim, thing), False)
                for form in forms_of((("a", 0), ("b", 0), ("c", 0), ("f", 2), ("f", 3)), 4):
                    own = form != () and (form[0], len(form) - 1) == sign and is_stuck(book, form)
                    self.assertIs(is_paper_against(claim, form), own)
                    self.assertFalse(own and rows)
        self.assertIs(is_paper_against(("tree", THREE, ("f", 3)), ("f", (), (), MARK)), False)
        self.assertIs(is_paper_against(("tree", THREE, ("f", 3)), list(WIDE)), False)


class Follows(unittest.TestCase):

    def test_follows(self):
        rnd, told = random.Random(10), [0, 0]
        forms = forms_of((("a", 0), ("f", 2), ("g", 1)), 3)
        for _ in range(250):
            sides, other = random_sides(rnd, 3), random_sides(rnd, 2)
            if rnd.random() < 0.5:
                other = sides[1:]
            claim = ("follows", sides, other)
            told[checked(claim)] += 1
            self.assertEqual(stands(claim), all(plain_blot(sides, closed(side)) == () for side in other))
            for form in forms + [MARK, ("g", MARK)]:
                odd = not plain_lies(plain_blot(sides, form), plain_blot(other, form)) and MARK not in plain_spots(form).values()
                self.assertIs(is_paper_against(claim, form), odd)
                self.assertFalse(odd and stands(claim))
            for thing in ((), ((),), None, [()]):
                self.assertIs(is_reason_for(claim, thing), thing == () and type(thing) is tuple and other == ())
        self.assertGreater(min(told), 40)


class Wants(unittest.TestCase):

    def test_lots(self):
        rnd, told, papers = random.Random(11), [0, 0], 0
        for book, house, plain in houses(12, 400, 4, 2, BOOKS):
            world = random_world(rnd, book, house, 4)
            found = further_lots(book, house, world, 4)
            if found is None:
                continue
            cells = sorted({cell for lot in found for cell in lot})
            row = tuple(sorted(rnd.sample(cells, rnd.randint(0, min(2, len(cells))))))
            claim = ("wants", book, house, world, row)
            told[checked(claim)] += 1
            least = least_lot(book, house, world)
            self.assertEqual(stands(claim), set(row) <= set(least))
            for lot in found:
                paper = found[lot] and not set(row) <= set(lot)
                papers += paper
                self.assertIs(is_paper_against(claim, lot), paper)
                self.assertFalse(paper and stands(claim))
                if len(lot) > 1:
                    self.assertIs(is_paper_against(claim, lot[::-1]), False)
                self.assertIs(is_paper_against(claim, list(lot)), False)
                if lot:
                    self.assertIs(is_paper_against(claim, lot[:-1] + (list(lot[-1]),)), False)
                    self.assertIs(is_paper_against(claim, lot + lot[-1:]), False)
            for thing in [(cell,) for cell, reply in house[1]] + [((9, 9),), ((),), (0,), None, ((True,),), ((-1,),), (("a",),)]:
                self.assertIs(is_paper_against(claim, thing), False)
            self.assertIs(stands(("wants", book, house, world, ((77,),))), False)
            self.assertEqual(paper_against(("wants", book, house, world, ((77,),))), least)
            self.assertIs(lot_ends(book, house, world, least), True)
        self.assertGreater(min(told), 40)
        self.assertGreater(papers, 100)


def ended_houses():
    """Ended HOUSES."""
    rnd, rows = random.Random(13), [(RIGHT, ENDED), (RIGHT, ((A,), ())), (RIGHT, (((),), (((0,), A),)))]
    for book, house, plain in houses(14, 260, 5, 3, BOOKS):
        while plain.ready() and len(plain.made) < 14:
            plain.call(rnd.choice(plain.ready()), rnd.choice((END, A, B, 0, 0, ("g", 0))))
        if not plain.ready():
            rows.append((book, plain.house()))
    return rows


class Rounds(unittest.TestCase):

    def test_chains(self):
        told, many = [0, 0], 0
        for book, house in ended_houses():
            chain = longest_chain(book, house)
            for number in range(-1, len(chain) + 2):
                claim = ("rounds", book, house, number)
                told[checked(claim)] += 1
                self.assertEqual(stands(claim), len(chain) > number)
                rows = by_hands(book, house, 60)
                for thing in (rows, by_hands(book, house, 1), rows[::-1], list(rows), rows[:-1], rows + ((),), tuple(map(list, rows)),
                              rows + rows[:1], (wanted(book, house),), (), None):
                    paper = isinstance(thing, tuple) and are_rounds(book, house, 60, thing) and len(thing) <= number
                    self.assertIs(is_paper_against(claim, thing), paper)
                    self.assertFalse(paper and stands(claim))
                self.check_reasons(claim, chain)
                many += len(chain) > 1
        self.assertGreater(min(told), 150)
        self.assertGreater(many, 100)

    def check_reasons(self, claim, chain):
        _, book, house, number = claim
        spent, kept = in_vain(book, house), wanted(book, house)
        things = [chain, chain[::-1], chain[1:], chain[:-1], list(chain), chain + chain[-1:], tuple(map(list, chain)), (), None, ((9,),) * 3,
                  tuple(kept), tuple(spent), chain[:1] + chain[2:], ((True,),)]
        things += [(cell,) for cell in kept[:3] + spent[:2]]
        for thing in things:
            good = type(thing) is tuple and all(type(cell) is tuple and type(cell[0]) is int and cell in kept for cell in thing)
            good = good and len(thing) > number and all(one in causes(book, house, two) for one, two in zip(thing, thing[1:]))
            self.assertIs(is_reason_for(claim, thing), good, (claim, thing))

    def test_numbers(self):
        self.assertEqual([stands(("rounds", RIGHT, ENDED, number)) for number in (-5, 0, 1, 2, 3, 10 ** 6)], [True] * 3 + [False] * 3)
        self.assertEqual([stands(("rounds", RIGHT, ((A,), ()), number)) for number in (-1, 0, 1)], [True, False, False])
        self.assertEqual((reason_for(("rounds", RIGHT, ((A,), ()), -1)), paper_against(("rounds", RIGHT, ((A,), ()), 0))), ((), ()))

    def test_sixty_calls(self):
        house = (((),) * 20, tuple(((number,), END) for number in range(20)))
        self.assertIs(stands(("rounds", RIGHT, house, 0)), True)
        # Sixty hands, and no more.
        for many in (60, 61):
            plan = tuple(("k", number + 1, many + number) for number in range(many - 1)) + ((),) * many
            row = tuple((number,) for number in range(many - 1, many * 2 - 1))
            house = (plan, tuple((cell, END) for cell in row))
            self.assertEqual((len(row), is_done(RIGHT, house)), (many, True))
            self.assertIs(is_paper_against(("rounds", RIGHT, house, 5), (row,)), many == 60)
        plan = (("k", 1, 2, 3), ("k", 4, 5, 6), ("k", 7, 8, 9), ("k", 10, 11, 12)) + ((),) * 9
        calls = [((number,), ("k", ("k", (), (), ()), (), ())) for number in range(4, 12)]
        calls += [((number,) + own, END) for number in range(4, 12) for own in ((2,), (3,), (4,), (5,), (6,))] + [((12,), END)]
        house = (plan, tuple(sorted(calls)))
        self.assertEqual(len(house[1]), 49)
        self.assertIs(checked(("rounds", RIGHT, house, 1)), True)
        self.assertIs(checked(("rounds", RIGHT, house, 2)), False)


class Fallen(unittest.TestCase):

    def test_first_fallen(self):
        rnd = random.Random(15)
        for _ in range(60):
            claims = tuple(rnd.choice(STANDING * 3 + FALLEN) for _ in range(rnd.randint(0, 7)))
            numbers = [number for number, claim in enumerate(claims) if claim in FALLEN]
            told = first_fallen(claims)
            self.assertEqual(first_fallen(as_lists(claims)), told)
            self.assertEqual(first_fallen(claims=mixed(claims)), told)
            if not numbers:
                self.assertIsNone(told)
                continue
            self.assertEqual(told[0], numbers[0])
            self.assertIs(is_paper_against(claims[numbers[0]], told[1]), True)
            self.assertEqual(told[1], paper_against(claims[numbers[0]]))
            for wrong in ((), ("sure", RIGHT), None, list(FALLEN[0])[:2]):
                at = rnd.randint(0, len(claims))
                self.assertRaises(Unfit, first_fallen, claims[:at] + (wrong,) + claims[at:])
        self.assertIsNone(first_fallen(()))

    def test_papers_of_one_are_none_of_another(self):
        papers = {claim: paper_against(claim) for claim in FALLEN}
        for claim in FALLEN + STANDING:
            for other, paper in papers.items():
                told = is_paper_against(claim, paper)
                self.assertIn(told, (True, False))
                if claim in STANDING:
                    self.assertIs(told, False)

    def test_odd_papers(self):
        for claim in STANDING + FALLEN:
            for thing in odd_things() + more_things():
                told = is_paper_against(claim, thing)
                self.assertIn(told, (True, False))
                self.assertFalse(claim in STANDING and told)
                self.assertFalse(isinstance(thing, list) and told)
                if claim[0] in WITH_REASONS:
                    reason = is_reason_for(claim, thing)
                    self.assertIn(reason, (True, False))
                    self.assertFalse(claim in FALLEN and reason)
                    self.assertFalse(isinstance(thing, list) and reason)

    def test_keys(self):
        """A BOOK that is not plain."""
        self.assertIs(checked(("bars", KEYS, WIDE, ((0,), (1,)))), True)
        self.assertIs(checked(("shown", KEYS, ("k", WIDE), ("k", ()))), False)
        self.assertEqual(is_claim(("tree", KEYS, ("f", 3))), False)
        self.assertIs(bars(KEYS, WIDE, ((0,),)), False)


if __name__ == "__main__":
    unittest.main()
