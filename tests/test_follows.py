"""[18]: SIDES that follow others, BOOKS joined and edited, what is kept of a HOUSE."""

import itertools
import random
import unittest

from notinvain.always import always_needs, lacks
from notinvain.blots import is_whole, strikes_by
from notinvain.cells import causes, is_house
from notinvain.errors import CanNot, TooMany, Unfit
from notinvain.follows import are_reasons, both_books, clashes, follows, healings, idle_sides, is_odd_form, kept_house
from notinvain.follows import lost_calls, odd_form, own_lacking, reasons, turned_tasks, with_side, without_side
from notinvain.needs import needed_tasks
from notinvain.runs import tasks
from tests.houses import BOOKS, CHAIN, DEEP, ONE, RIGHT, STEPS, THREE, TURN, NoHouse, Plain, houses
from tests.seeds import KEYS, LONG, PAIRED, UNEVEN, WIDE, plain_book, random_form
from tests.small import A, B, C, END, MARK, SIGNS, as_lists, forms_of, more_things, odd_things, plain_agree, plain_blot
from tests.small import plain_calls, plain_due, plain_lies, plain_needed, plain_put, plain_signs, plain_spots, plain_tasks
from tests.small import sides_of, subsets

SHORT = (("f", ("h", ())),)
SMALL_SIDES = sides_of((("a", 0), ("f", 2), ("g", 1)), 3, 2)
SMALL_FORMS = forms_of((("a", 0), ("end", 0), ("f", 2), ("g", 1)), 4)


def closed(side):
    """side with ("end",) at its OPEN PLACES."""
    if side == ():
        return END
    return side[:1] + tuple(closed(part) for part in side[1:])


def random_sides(rnd, many=3, size=7, signs=(("a", 0), ("b", 0), ("f", 2), ("g", 1), ("h", 3))):
    """SIDES, clean or not."""
    out = set()
    while len(out) < many:
        name, count = rnd.choice(signs)
        side = (name,) + tuple(random_part(rnd, signs, 2) for _ in range(count))
        if len(plain_spots(side)) <= size:
            out.add(side)
    return tuple(sorted(out))


def random_part(rnd, signs, depth):
    turn = rnd.random()
    if depth == 0 or turn < 0.4:
        return () if turn < 0.25 else rnd.choice((A, B))
    name, count = rnd.choice(signs)
    return (name,) + tuple(random_part(rnd, signs, depth - 1) for _ in range(count))


def random_books(seed, tries, many=3, size=7, signs=(("a", 0), ("b", 0), ("f", 2), ("g", 1), ("h", 3))):
    """BOOKS, out of so many tries."""
    rnd = random.Random(seed)
    rows = [random_sides(rnd, rnd.randint(1, many), size, signs) for _ in range(tries)]
    return [sides for sides in rows if plain_book(sides)]


def random_plain(rnd, many, names=(A, B, C, ())):
    """A plain BOOK of at most so many SIDES of one SIGN, one after the other, as long as they go together."""
    x, y, z = rnd.sample((A, B, C), 2), rnd.sample((A, B, C), 2), rnd.sample((A, B, C), 2)
    rows = [("f", (), x[0], y[0]), ("f", z[0], (), y[1]), ("f", z[1], x[1], ())] if rnd.random() < 0.6 else []
    for _ in range(25):
        side = ("f",) + tuple(rnd.choice(names) for _ in range(3))
        if len(rows) < many and any(side[1:]) and not any(plain_agree(side, other) for other in rows):
            rows.append(side)
    return tuple(sorted(rows))


class Examples(unittest.TestCase):

    def test_follow(self):
        self.assertEqual((follows(CHAIN, SHORT), follows(SHORT, CHAIN), reasons(CHAIN, SHORT)),
                         (True, False, ((((0,), 1), ((), 0)),)))
        self.assertEqual((is_odd_form(SHORT, CHAIN, ("h", ("end",))), is_odd_form(SHORT, CHAIN, ("h", ()))), (True, True))

    def test_clashes(self):
        self.assertEqual((idle_sides((("f", ("c",)), ("f", ("h", ())), ("h", ()))), clashes(THREE) == (THREE,),
                          healings(THREE) == tuple([(side,) for side in THREE])), ((('f', ('h', ())),), True, True))

    def test_turned(self):
        number, lacking = own_lacking(THREE, (("k", ("c",)),), ("f", ("k", ()), (), ()))
        self.assertEqual((number, needed_tasks(THREE, lacking), turned_tasks(CHAIN, (("f", ("c",)),), ("f", ("h", ())))),
                         (0, (), ((0,), (0, 0))))
        house = ((("f", 1), ("h", 2), ()), (((0,), ("end",)), ((1,), ("c",))))
        self.assertEqual((kept_house(CHAIN, (("h", ()),), house), lost_calls(CHAIN, (("f", ("c",)),), house)),
                         (((('f', 1), ('h', 2), ()), (((1,), ('c',)),)), ((0,), (1,))))


class Following(unittest.TestCase):

    def test_all_small(self):
        """SIDES follow others exactly if no small FORM is odd."""
        blots = {sides: [plain_blot(sides, form) for form in SMALL_FORMS] for sides in SMALL_SIDES}
        both = [0, 0]
        for sides, other in itertools.product(SMALL_SIDES, repeat=2):
            odd = [form for form, one, two in zip(SMALL_FORMS, blots[sides], blots[other]) if not plain_lies(one, two)]
            self.assertIs(follows(sides, other), not odd, (sides, other))
            both[not odd] += 1
            own = odd_form(sides, other)
            self.assertEqual(own is None, not odd)
            self.assertEqual(own is None, reasons(sides, other) is not None)
            if own is not None:
                self.assertIs(is_odd_form(sides, other, own), True)
                self.assertNotIn(MARK, plain_spots(own).values())
        self.assertGreater(min(both), 50)

    def test_odd_forms(self):
        rnd = random.Random(1)
        for sides, other in rnd.sample(list(itertools.product(SMALL_SIDES, repeat=2)), 150):
            for form in SMALL_FORMS:
                own = not plain_lies(plain_blot(sides, form), plain_blot(other, form))
                self.assertIs(is_odd_form(sides, other, form), own)
                self.assertIs(is_odd_form(sides, other, as_lists(form)), False)

    def test_random(self):
        rnd, told = random.Random(2), [0, 0]
        for _ in range(400):
            sides, other = random_sides(rnd, 3), random_sides(rnd, 2)
            if rnd.random() < 0.5:
                other = tuple(sorted(set(other[:1] + sides[1:])))
            answer = follows(sides, other)
            told[answer] += 1
            self.check_odd(sides, other, answer, [random_form(rnd, (("f", 2), ("g", 1), ("h", 3)), 3) for _ in range(25)])
            own = reasons(sides, other)
            self.assertEqual(own is not None, answer)
            if answer:
                self.check_reasons(sides, other, own, rnd)
            else:
                self.assertIs(are_reasons(sides, other, ((),) * len(other)), False)
        self.assertGreater(min(told), 20)

    def check_odd(self, sides, other, answer, forms):
        for form in forms:
            odd = not plain_lies(plain_blot(sides, form), plain_blot(other, form))
            self.assertIs(is_odd_form(sides, other, form), odd)
            self.assertFalse(answer and odd)
        own = odd_form(sides, other)
        self.assertIs(own is None, answer)
        if own is not None:
            self.assertIs(is_odd_form(sides, other, own), True)
            self.assertFalse(plain_lies(plain_blot(sides, own), plain_blot(other, own)))
            self.assertIs(is_odd_form(sides, other, plain_put(own, sorted(plain_spots(own))[-1], MARK)), False)

    def check_reasons(self, sides, other, own, rnd):
        self.assertIs(are_reasons(sides, other, own), True)
        self.assertIs(are_reasons(as_lists(sides), as_lists(other), own), True)
        self.assertEqual(len(own), len(other))
        for side, row in zip(other, own):
            self.assertIs(is_whole(sides, closed(side), row), True)
        # Other whole STRIKES are reasons, too.
        turned = []
        for side in other:
            places = sorted(plain_spots(closed(side)))
            rnd.shuffle(places)
            turned.append(strikes_by(sides, closed(side), tuple(places)))
        self.assertIs(are_reasons(sides, other, tuple(turned)), True)
        for thing in (own + ((),), own[:-1], list(own), own[::-1], own + own[:1], (list(own[0]),) + own[1:], (own[0][:-1],) + own[1:],
                      (own[0] + own[0][:1],) + own[1:], (own[0][::-1],) + own[1:], (tuple(map(list, own[0])),) + own[1:], (None,) + own[1:],
                      ((((), True),),) + own[1:], ((((), len(sides)),),) + own[1:], ((((), -1),),) + own[1:]):
            good = isinstance(thing, tuple) and len(thing) == len(other) and all(
                isinstance(row, tuple) and all(isinstance(step, tuple) for step in row) and is_whole(sides, closed(side), row)
                for side, row in zip(other, thing))
            self.assertIs(are_reasons(sides, other, thing), good, (sides, other, thing))

    def test_true_for_one(self):
        sides = (A, ("f", ("a",)))
        self.assertEqual(reasons(sides, (("f", ("a",)),)), ((((0,), 0), ((), 1)),))
        self.assertIs(are_reasons(sides, (("f", ("a",)),), ((((0,), False), ((), True)),)), False)
        self.assertIs(are_reasons(sides, (("f", ("a",)),), ((((), 1),),)), True)

    def test_none(self):
        self.assertEqual((follows((), ()), reasons((), ()), are_reasons((), (), ()), odd_form((), ())), (True, (), True, None))
        self.assertEqual((follows(CHAIN, ()), reasons(CHAIN, ()), idle_sides(())), (True, (), ()))
        self.assertEqual((follows((), CHAIN), reasons((), CHAIN)), (False, None))
        self.assertIs(is_odd_form((), CHAIN, odd_form((), CHAIN)), True)
        self.assertIs(are_reasons((), CHAIN, ((), ())), False)

    def test_things(self):
        for sides, other in ((CHAIN, SHORT), (SHORT, CHAIN), ((), CHAIN), (CHAIN, ()), ((), ())):
            for thing in odd_things() + more_things():
                self.assertIs(are_reasons(sides, other, thing), thing == () and isinstance(thing, tuple) and other == ())
            for thing in odd_things() + more_things():
                self.assertIs(is_odd_form(sides, other, thing), False)
        for thing in (("h", MARK), MARK, ["h", ()], ("h", []), ("h", (), 1), ("h",), ("h", True), ("h", ("mark", ()))):
            self.assertIs(is_odd_form(SHORT, CHAIN, thing), False)
        self.assertIs(is_odd_form(SHORT, CHAIN, ("k", ("h", ("stop",)), A)), True)

    def test_goes_on(self):
        rnd, many = random.Random(3), 0
        table = {(one, two): follows(one, two) for one, two in itertools.product(SMALL_SIDES, repeat=2)}
        for one, two, three in itertools.product(SMALL_SIDES, repeat=3):
            if table[one, two] and table[two, three]:
                many += 1
                self.assertTrue(table[one, three])
        self.assertGreater(many, 500)
        self.assertTrue(all(table[sides, sides] for sides in SMALL_SIDES))

    def test_books_that_follow_one_another_are_one(self):
        books = [sides for sides in SMALL_SIDES if plain_book(sides)]
        for one, two in itertools.product(books, repeat=2):
            self.assertEqual(follows(one, two) and follows(two, one), one == two)

    def test_idle(self):
        rnd, many = random.Random(4), 0
        for book in [sides for sides in SMALL_SIDES if plain_book(sides)] + random_books(5, 300) + list(BOOKS):
            self.assertEqual(idle_sides(book), ())
        for sides in SMALL_SIDES + [random_sides(rnd, 4) for _ in range(200)]:
            own = []
            for side in sides:
                rest = tuple(other for other in sides if other != side)
                if plain_blot(rest, closed(side)) == ():
                    own.append(side)
            self.assertEqual(idle_sides(sides), tuple(own))
            many += bool(own)
        self.assertGreater(many, 30)


class Editing(unittest.TestCase):

    def test_with_and_without(self):
        rnd, unfit = random.Random(6), 0
        for book in random_books(7, 250) + [THREE, CHAIN, DEEP, TURN, ()]:
            for side in random_sides(rnd, 2) + book[:1]:
                own = tuple(sorted(set(book + (side,))))
                if plain_book(own):
                    self.assertEqual(with_side(book, side), own)
                    self.assertEqual(with_side(as_lists(book), as_lists(side)), own)
                    self.assertEqual(without_side(own, side), tuple(other for other in book if other != side))
                else:
                    unfit += 1
                    self.assertRaises(Unfit, with_side, book, side)
                if side not in book:
                    self.assertRaises(CanNot, without_side, book, side)
            for side in book:
                self.assertEqual(with_side(book, side), book)
                self.assertEqual(without_side(book, side), tuple(other for other in book if other != side))
                self.assertEqual(with_side(without_side(book, side), side), book)
        self.assertGreater(unfit, 50)

    def test_both(self):
        books, kinds = random_books(8, 130) + [THREE, CHAIN, ()], [0, 0]
        for one, two in itertools.product(books[::3], books[::2]):
            own = tuple(sorted(set(one + two)))
            kinds[plain_book(own)] += 1
            if plain_book(own):
                self.assertEqual(both_books(one, two), own)
            else:
                self.assertRaises(Unfit, both_books, one, two)
        self.assertGreater(min(kinds), 50)

    def test_many_sides(self):
        one = tuple(sorted(("f", (name,)) for name in "abcdefgh"))
        two = tuple(sorted(("f", (name,)) for name in "ijklmnop"))
        self.assertEqual(both_books(one, two), one + two)
        self.assertEqual(with_side(one, ("f", ("z",))), one + (("f", ("z",)),))


def renamed(book):
    """book with NAMES of its own."""
    def turned(form):
        return form and ("x" + form[0],) + tuple(turned(part) for part in form[1:])
    return tuple(sorted(turned(side) for side in book))


class Together(unittest.TestCase):

    def check(self, one, two, form):
        number, lacking = own_lacking(one, two, form)
        self.assertIn(number, (0, 1))
        book = (one, two)[number]
        self.assertIs(lacks(book, lacking), True)
        self.assertEqual(plain_due(book, lacking), [])
        self.assertIn((), plain_spots(lacking).values())
        self.assertEqual(plain_needed(book, lacking), ())
        signs = plain_signs(book) | {("end", 0)}
        self.assertTrue(plain_signs((lacking,)) <= signs, (lacking, book))
        self.assertEqual(own_lacking(as_lists(one), as_lists(two), as_lists(form)), (number, lacking))
        return number

    def test_own_lacking(self):
        rnd, told = random.Random(9), [0, 0]
        tight = [THREE, KEYS, LONG, UNEVEN, PAIRED]
        pairs = [(one, renamed(two)) for one, two in itertools.product(tight, tight[:2] + [CHAIN, RIGHT, ()])]
        pairs += [(two, one) for one, two in pairs]
        for one, two in pairs:
            both = tuple(sorted(one + two))
            signs = sorted(plain_signs(both) | {("k", 2)})
            seeds = [("f", (), (), ()), ("xf", (), (), ())]
            for _ in range(60):
                form = random_form(rnd, signs, 2)
                for place in [place for place, part in plain_spots(form).items() if part == ()]:
                    form = plain_put(form, place, rnd.choice(seeds + [A, END, ("xa",), ("m", A)]))
                spots = plain_spots(form)
                own = () in spots.values() and not plain_due(both, form) and plain_needed(both, form) == ()
                self.assertEqual(lacks(both, form), own)
                if own and len(spots) <= 40:
                    told[self.check(one, two, form)] += 1
                elif not own:
                    self.assertRaises(CanNot, own_lacking, one, two, form)
        self.assertGreater(min(told), 40)

    def test_errors(self):
        self.assertRaises(CanNot, own_lacking, THREE, RIGHT, WIDE)
        self.assertRaises(CanNot, own_lacking, THREE, THREE, WIDE)
        # ("b", 0) is a SIGN of PARTS of both.
        self.assertRaises(CanNot, own_lacking, THREE, (("k", ("b",)),), WIDE)
        self.assertRaises(CanNot, own_lacking, THREE, (("k", ("c",)),), ("k", ()))
        self.assertRaises(CanNot, own_lacking, THREE, (("k", ("c",)),), ())
        self.assertRaises(CanNot, own_lacking, THREE, (("k", ("c",)),), ("k", ("c",)))
        self.assertEqual(own_lacking(THREE, (("f", ("c",)),), WIDE), (0, WIDE))
        self.assertEqual(own_lacking((), THREE, ("m", WIDE, ("c",)))[0], 1)

    def test_too_many_rows_are_no_matter(self):
        self.assertRaises(TooMany, always_needs, PAIRED)
        form = ("f", ("p", ("xk", ()), ()), ("xk", ("m", ("xk", ()))))
        self.assertEqual(own_lacking(PAIRED, (("xk", ("xc",)),), ("f", ("p", ("xk", ()), ()), ()))[0], 0)
        self.assertRaises(CanNot, own_lacking, PAIRED, (("xk", ("xc",)),), form)

    def test_always_exactly_if_each_does(self):
        books = random_books(10, 60, 2, 5) + [THREE, CHAIN, DEEP, ONE]
        many = 0
        for one, two in itertools.product(books[::2], books[::3]):
            own = renamed(two)
            both = both_books(one, own)
            self.assertEqual(both, tuple(sorted(one + own)))
            try:
                told = always_needs(both)
            except TooMany:
                continue
            many += 1
            self.assertEqual(told, always_needs(one) and always_needs(own))
        self.assertGreater(many, 50)


FLAT = [("f",) + parts for parts in itertools.product(((), A, B, C), repeat=3)]
KNOWN = {}


def flat_always(book):
    """Whether a BOOK of SIDES f(x, y, z) with parts out of OPEN, a, b, c always needs: no such FORM lacks."""
    if book not in KNOWN:
        KNOWN[book] = not any(() in form and not plain_due(book, form) and not plain_needed(book, form) for form in FLAT)
    return KNOWN[book]


class Clashing(unittest.TestCase):

    def check(self, book, always=always_needs):
        known = {own: always(own) for own in subsets(book)}
        tight = [own for own in known if not known[own]]
        least = sorted(own for own in tight if not any(set(less) < set(own) for less in tight))
        self.assertEqual(clashes(book), tuple(least))
        heal = [own for own in known if known[tuple(side for side in book if side not in own)]]
        self.assertEqual(healings(book), tuple(sorted(own for own in heal if not any(set(less) < set(own) for less in heal))))
        self.assertEqual(bool(least), not known[book])
        for own in clashes(book):
            self.assertEqual(len({(side[0], len(side)) for side in own}), 1)
        for own in subsets(book):
            if known[own]:
                self.assertTrue(all(known[less] for less in subsets(own)))

    def test_beside_a_search(self):
        rnd, tight = random.Random(11), 0
        for _ in range(60):
            book = random_plain(rnd, rnd.randint(3, 6))
            self.assertTrue(plain_book(book))
            self.check(book, flat_always)
            tight += len(clashes(book))
        self.assertGreater(tight, 40)
        for book in (THREE, RIGHT, ONE, CHAIN, ()):
            self.check(book)
            self.check(book, flat_always)

    def test_two_signs(self):
        four = tuple(sorted(THREE + (("f", ("b",), ("b",), ("b",)), ("k", ("a",), ()), ("k", ("b",), ("a",)))))
        self.check(four, lambda own: flat_always(tuple(side for side in own if side[0] == "f")))
        both = tuple(sorted(THREE + renamed(THREE)))
        self.assertEqual(clashes(both), (THREE, renamed(THREE)))
        self.assertEqual(healings(both), tuple(sorted((one, two) for one in THREE for two in renamed(THREE))))

    def test_none(self):
        for book in (RIGHT, ONE, CHAIN, (), THREE[:2]):
            self.assertEqual((clashes(book), healings(book)), ((), ((),)))

    def test_not_plain(self):
        for book in (KEYS, (("f", ("f", ("a",))),), (("f", ("g", ("b",))), ("g", ("a",)))):
            self.assertRaises(CanNot, clashes, book)
            self.assertRaises(CanNot, healings, book)

    def test_never_too_many(self):
        self.assertRaises(TooMany, always_needs, PAIRED)
        self.assertEqual((clashes(PAIRED), healings(PAIRED)), ((PAIRED,), tuple((side,) for side in PAIRED)))
        eight = tuple(sorted(("f", (name,), (), ()) for name in "abcdefgh"))
        self.assertEqual((clashes(eight), healings(eight)), ((), ((),)))
        rows = [("f", (name,), ("a",), ()) for name in "abc"] + [("f", (), ("b",), (name,)) for name in "abc"]
        rows += [("f", (name,), ("c",), (name,)) for name in "ab"]
        self.assertTrue(plain_book(rows))
        told = clashes(tuple(sorted(rows)))
        self.assertEqual(healings(tuple(sorted(rows)))[0], healings(as_lists(tuple(sorted(rows))))[0])
        self.assertEqual(told, clashes(as_lists(tuple(sorted(rows)))))
        nine = tuple(sorted(THREE + tuple(("k", (name,)) for name in "abcdefghij")))
        self.assertEqual((clashes(nine), len(healings(nine))), ((THREE,), 3))
        many = tuple(sorted(THREE + renamed(THREE) + renamed(renamed(THREE)) + renamed(renamed(renamed(THREE)))))
        self.assertEqual((len(clashes(many)), len(healings(many))), (4, 81))


class Turning(unittest.TestCase):

    def test_tasks(self):
        rnd = random.Random(12)
        books = random_books(13, 200, 2, 6)
        for _ in range(600):
            one, two = rnd.choice(books), rnd.choice(books)
            form = random_form(rnd, SIGNS[2:] + (("h", 3),), 3)
            own = set(plain_tasks(one, form)) ^ set(plain_tasks(two, form))
            self.assertEqual(turned_tasks(one, two, form), tuple(sorted(own)))
            self.assertEqual(turned_tasks(two, one, form), tuple(sorted(own)))
        self.assertEqual(turned_tasks(CHAIN, CHAIN, ("f", ("h", ()))), ())

    def test_if_other_has_all(self):
        rnd, many = random.Random(14), 0
        for book in random_books(15, 300, 4):
            for size in range(len(book)):
                own = tuple(sorted(rnd.sample(book, size)))
                for form in [random_form(rnd, SIGNS[2:] + (("h", 3),), 2) for _ in range(4)] + [closed(book[0]), book[-1]]:
                    one, two = tasks(own, form), tasks(book, form)
                    self.assertTrue(all(any(place[:len(other)] == other for other in two) for place in one))
                    needed = needed_tasks(own, form)
                    for place in needed_tasks(book, form):
                        if place in one:
                            many += 1
                            self.assertIn(place, needed)
        self.assertGreater(many, 100)


def replayed(book, house):
    """Of each call of a HOUSE the SIDE that was due, () if it was OPEN."""
    plain, left, table = Plain(book, house[0]), list(house[1]), {}
    while left:
        for cell, reply in list(left):
            if plain.free(cell):
                table[cell] = plain.side(cell) if plain.own[cell] else ()
                plain.call(cell, reply)
                left.remove((cell, reply))
    return table


def can_be_made(book, plan, calls):
    """Whether (plan, calls) is a HOUSE, straight from the words."""
    plain, left = Plain(book, plan), list(calls)
    while left:
        free = [pair for pair in left if plain.free(pair[0])]
        if not free:
            return False
        try:
            plain.call(*free[0])
        except NoHouse:
            return False
        left.remove(free[0])
    return True


class Keeping(unittest.TestCase):

    def test_kept(self):
        rnd, lost = random.Random(16), 0
        for book, house, plain in houses(17, 700, 5, 6):
            for other in [rnd.choice(BOOKS), tuple(sorted(rnd.sample(book, rnd.randint(0, len(book)))))]:
                shared = tuple(side for side in book if side in other)
                kept = kept_house(book, other, house)
                self.assertEqual(kept[0], house[0])
                self.assertTrue(set(kept[1]) <= set(house[1]))
                for own in (shared, book, other):
                    self.assertIs(is_house(own, kept), True)
                table, cells = replayed(book, house), [cell for cell, reply in kept[1]]
                for cell, _ in house[1]:
                    row = [cell] + list(causes(book, house, cell))
                    self.assertEqual(cell in cells, all(table[at] == () or table[at] in other for at in row))
                gone = tuple(cell for cell, _ in house[1] if cell not in cells)
                self.assertEqual(lost_calls(book, other, house), gone)
                lost += bool(gone)
                self.assertEqual(kept_house(as_lists(book), as_lists(other), as_lists(house)), kept)
        self.assertGreater(lost, 60)

    def test_the_most(self):
        rnd, many = random.Random(18), 0
        for book, house, plain in houses(19, 1500, 4, 5):
            other = tuple(sorted(rnd.sample(book, rnd.randint(0, len(book)))))
            rows = [own for own in subsets(house[1]) if can_be_made(other, house[0], own)]
            self.assertEqual(kept_house(book, other, house)[1], max(rows, key=len))
            many += len(rows[-1]) < len(house[1])
        self.assertGreater(many, 30)

    def test_all_is_kept(self):
        for book, house, plain in houses(20, 120, 5, 6):
            self.assertEqual((kept_house(book, book, house), lost_calls(book, book, house)), (house, ()))
            more = [side for side in BOOKS[0] + BOOKS[7] + (("z", A),) if plain_book(book + (side,)) and side not in book]
            own = tuple(sorted(book + tuple(more[:1])))
            self.assertEqual((kept_house(book, own, house), lost_calls(book, own, house)), (house, ()))

    def test_none_is_kept(self):
        house = ((("f", 1), ("c",)), (((0,), ("g", ())), ((0, 1), A)))
        self.assertEqual((kept_house(CHAIN, RIGHT, house), lost_calls(CHAIN, RIGHT, house)), ((house[0], ()), ((0,), (0, 1))))
        self.assertEqual(kept_house(CHAIN, (), (((),), (((0,), A),))), (((),), (((0,), A),)))
        self.assertEqual(lost_calls(CHAIN, RIGHT, (house[0], ())), ())

    def test_numbers_of_replies_stay(self):
        house = ((("h", 1), ()), (((0,), 0), ((1,), A)))
        self.assertEqual(kept_house(CHAIN, (("h", ()),), house), house)
        self.assertEqual(kept_house(CHAIN, CHAIN[:1], house), (house[0], (((1,), A),)))


if __name__ == "__main__":
    unittest.main()
