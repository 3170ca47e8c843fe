"""HOUSES read straight from the words of the document, and many of them; nothing of the package is used."""

import random

from tests.small import A, END, MARK, plain_blot, plain_lies, plain_put, plain_signs, plain_spots

RIGHT, BOTH = (("f", (), ("b",)),), (("f", ("a",), ("b",)),)
THREE = (("f", (), ("a",), ("b",)), ("f", ("a",), ("b",), ()), ("f", ("b",), (), ("a",)))
CHAIN, DEEP = (("f", ("c",)), ("h", ())), (("f", ("g", ()), ("a",)),)
ONE = (("f", ("a",), ("b",)), ("f", ("b",), ()))
TURN = (("f", ("g", (), ()), ("g", (), ("a",))), ("h", ("g", ("a",), ())))
STEPS = (("h", ("k", ("k", ()))), ("h", ("k", ("a",))))
BOOKS = (RIGHT, BOTH, THREE, CHAIN, DEEP, ONE, TURN, STEPS, ())


class NoHouse(Exception):
    """A call cannot be made."""


class Plain:
    """The CELLS behind calls, one behind the other."""

    def __init__(self, book, plan, calls=()):
        self.book, self.plan, self.made = book, plan, {}
        self.own = {(number,): own[:1] + tuple((part,) for part in own[1:]) for number, own in enumerate(plan)}
        self.link = {}
        for cell, reply in calls:
            self.call(cell, reply)

    def end(self, cell):
        return self.end(self.link[cell]) if cell in self.link else cell

    def stands(self, cell):
        own = self.own[self.end(cell)]
        return own[:1] + tuple(self.stands(part) for part in own[1:])

    def side(self, cell):
        rows = [side for side in self.book if plain_lies(side, self.stands(cell))]
        return rows[0] if rows else None

    def free(self, cell):
        return cell in self.own and cell not in self.link and (not self.own[cell] or self.side(cell) is not None)

    def found(self, cell):
        """What the OPEN PLACES of the SIDE that fits have met, read from the own cell of cell."""
        side, rows = self.side(cell), []
        for place in sorted(own for own, part in plain_spots(side or A).items() if part == ()):
            at = cell
            for number in place[:-1]:
                at = self.end(self.own[self.end(at)][number + 1])
            rows.append(self.own[self.end(at)][place[-1] + 1])
        return rows

    def call(self, cell, reply):
        if not self.free(cell):
            raise NoHouse
        found, self.count = self.found(cell), 0
        target = self.node(cell, found, reply)
        self.link[cell], self.made[cell] = target, reply

    def node(self, cell, found, reply):
        name = cell + (self.count,)
        self.count += 1
        if isinstance(reply, int) and reply < len(found):
            return found[reply]
        if isinstance(reply, int):
            reply = ("end",)
        self.own[name] = reply[:1] + tuple([self.node(cell, found, part) for part in reply[1:]])
        return name

    def placed(self, cell=(0,)):
        """The PLACES of what stands in cell, with the CELL met at each."""
        cell, rows = self.end(cell), {}
        rows[()] = cell
        for number, part in enumerate(self.own[cell][1:]):
            for place, own in self.placed(part).items():
                rows[(number,) + place] = own
        return rows

    def ready(self):
        return sorted({cell for cell in self.placed().values() if self.free(cell)})

    def house(self):
        return (self.plan, tuple(sorted(self.made.items(), key=lambda pair: pair[0])))


def plain_of(book, house):
    """The CELLS of a HOUSE, its calls in whatever order they can be made; None if they cannot."""
    plain, left = Plain(book, house[0]), list(house[1])
    while left:
        own = [pair for pair in left if plain.free(pair[0])]
        if not own:
            return None
        for cell, reply in own:
            plain.call(cell, reply)
        left = [pair for pair in left if pair not in own]
    return plain


def random_reply(rnd, names, depth=2):
    """A REPLY with these NAMES, each a pair with a number of parts."""
    turn = rnd.random()
    if turn < 0.22:
        return ()
    if turn < 0.45:
        return rnd.choice((0, 0, 0, 1, 1, 2, 7))
    name, many = rnd.choice([own for own in names if own[1] == 0 or depth > 0])
    return (name,) + tuple(random_reply(rnd, names, depth - 1) for _ in range(many))


def random_plan(rnd, names, most):
    """A PLAN of at most so many cells, some of them shared, some reached from nowhere."""
    count, rows = rnd.randint(1, most), []
    for number in range(count):
        name, many = rnd.choice(names)
        if rnd.random() < 0.3 or many and number == count - 1:
            rows.append(())
        else:
            rows.append((name,) + tuple(rnd.randint(number + 1, count - 1) for _ in range(many)))
    return tuple(rows)


def names_for(book):
    """The SIGNS of book, and a few more."""
    return sorted(plain_signs(book) | {("a", 0), ("b", 0), ("k", 2)}) + sorted({(side[0], len(side) - 1) for side in book})


def small(plain, most):
    """Whether what stands in each CELL has at most so many PLACES."""
    return all(len(plain.placed(cell)) <= most for cell in plain.own)


def random_house(rnd, book, cells, calls, most=60):
    """The CELLS behind at most so many calls, at a PLAN of at most so many cells."""
    names = names_for(book)
    plain = Plain(book, random_plan(rnd, names, cells))
    for _ in range(rnd.randint(0, calls)):
        free = [cell for cell in sorted(plain.own) if plain.free(cell)]
        if not free or not small(plain, most):
            break
        plain.call(rnd.choice(free), random_reply(rnd, names))
    return plain if small(plain, most) else random_house(rnd, book, cells, calls, most)


def houses(seed, many, cells=5, calls=5, books=BOOKS):
    """So many triples of a BOOK, a HOUSE and its CELLS; the same ones for a seed."""
    rnd, rows = random.Random(seed), []
    for number in range(many):
        book = books[number % len(books)]
        plain = random_house(rnd, book, cells, calls)
        rows.append((book, plain.house(), plain))
    return rows


def random_world(rnd, book, house, calls):
    """A WORLD for further calls of house, most of them at CELLS that come."""
    plain, names = plain_of(book, house), names_for(book)
    rows = dict(plain.made)
    for _ in range(calls):
        free = [cell for cell in sorted(plain.own) if plain.free(cell)]
        if not free or not small(plain, 40):
            break
        cell, reply = rnd.choice(free), random_reply(rnd, names, 1)
        plain.call(cell, reply)
        if reply != END:
            rows[cell] = reply
    return tuple(sorted(rows.items(), key=lambda pair: pair[0]))


def plain_bars(book, plain, cells):
    """Whether a mark at each PLACE of these CELLS is left in the BLOT of what stands in the root."""
    form = plain.stands((0,))
    for place, cell in sorted(plain.placed().items(), reverse=True):
        if cell in cells:
            form = plain_put(form, place, MARK)
    return MARK in plain_spots(plain_blot(book, form)).values()
