"""BOOKS that do not always need, and SEEDS of them, found by plain readings; nothing of the package is used."""

import random

from tests.houses import THREE
from tests.small import plain_agree, plain_blot, plain_due, plain_needed, plain_put, plain_spots

WIDE = ("f", (), (), ())
# Four parts by way of a second SIGN; SIDES that are no plain BOOK; a choice of LOTS of unlike sizes; a SIDE apart.
PAIRED = (("f", ("p", (), ("a",)), ("b",)), ("f", ("p", ("a",), ("b",)), ()), ("f", ("p", ("b",), ()), ("a",)))
KEYS = (("f", (), ("a",), ("b",)), ("f", ("a",), ("b",), ()), ("f", ("b",), (), ("a",)), ("k", ("f", ("a",), ("a",), ("a",))))
UNEVEN = (("f", (), ("b",), ("p", ("b",), ("a",))), ("f", ("a",), ("a",), ("p", (), ())), ("f", ("b",), (), ("p", ("a",), ("b",))))
LONG = (("f", (), ("a",), ("g", ("b",))), ("f", ("a",), ("g", ("b",)), ()), ("f", ("g", ("b",)), (), ("a",)), ("h", ("c",)))
TIGHT = (THREE, PAIRED, KEYS, UNEVEN, LONG)


def plain_seed(book, form):
    """Whether form is a SEED, straight from the words."""
    spots = plain_spots(form)
    if () not in spots.values() or "mark" in str(form) or plain_due(book, form):
        return False
    return plain_blot(book, form) == () and plain_needed(book, form) == ()


def plain_book(sides):
    """Whether SIDES are clean."""
    for side in sides:
        for place, part in plain_spots(side).items():
            if part and any(plain_agree(other, part) for other in sides if place or other != side):
                return False
    return True


def random_form(rnd, signs, depth):
    """A FORM with these SIGNS, OPEN at many PLACES."""
    if depth == 0 or rnd.random() < 0.3:
        return rnd.choice(((), (), (), ("a",), ("b",), ("end",)))
    name, many = rnd.choice(signs)
    return (name,) + tuple(random_form(rnd, signs, depth - 1) for _ in range(many))


def seeds_of(book, seed, tries, places=4, depth=2):
    """SEEDS of book with at most so many OPEN PLACES; the same ones for a seed of chance."""
    rnd, rows = random.Random(seed), []
    signs = sorted({(part[0], len(part) - 1) for side in book for part in plain_spots(side).values() if len(part) > 1})
    for _ in range(tries):
        form = random_form(rnd, signs, depth)
        spots = plain_spots(form)
        if 0 < list(spots.values()).count(()) <= places and form not in rows and plain_seed(book, form):
            rows.append(form)
    return sorted(rows)


def nested_seed(form, at):
    """form with itself put at one of its OPEN PLACES."""
    places = sorted(place for place, part in plain_spots(form).items() if part == ())
    return plain_put(form, places[at], form)
