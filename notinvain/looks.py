"""TREES of looks, for plain BOOKS: which PLACE a FORM asks for next."""

from notinvain.books import agreeing, first_signs, is_plain
from notinvain.errors import CanNot, TooMany
from notinvain.trees import OPEN, ascending, first_fitting, is_number, is_numbers, is_pair, lies, open_form, open_in
from notinvain.trees import own_sign, part_at, put_all, spots, spots_from_below, standing_at, tupled

_MOST_TREES = 60


def _plain_book(book):
    """book, which ought to be plain."""
    if not is_plain(book):
        raise CanNot()
    return tupled(book)


def _first_seen(book, sign):
    """What is seen first of sign, which ought to be the SIGN of a SIDE."""
    sign = tupled(sign)
    if sign not in first_signs(book):
        raise CanNot()
    return open_form(sign)


def _looked_at(book, form):
    """Of form three: the SIDE that fits it, or None; the numbers of those that agree; the wanted looks, ascending."""
    numbers = agreeing(book, form)
    fits = [book[own] for own in numbers if lies(book[own], form)]
    if fits or not numbers:
        return (fits[0] if fits else None, numbers, ())
    places = [place for place in open_in(form) if all([part_at(book[own], place) for own in numbers])]
    return (None, numbers, tuple(places))


def wanted_looks(book, form):
    """The set of the PLACES of form at which a look is wanted."""
    return _looked_at(_plain_book(book), tupled(form))[2]


def is_stuck(book, form):
    """Whether form is stuck."""
    book, form = _plain_book(book), tupled(form)
    side, numbers, places = _looked_at(book, form)
    return own_sign(form) in first_signs(book) and bool(numbers) and side is None and not places


def _branches(book, numbers, seen, place):
    """The pairs of a SIGN that one of these SIDES has at place, and what is seen of it there."""
    signs = ascending([own_sign(part_at(book[own], place)) for own in numbers])
    return [(sign, put_all(seen, {place: open_form(sign)})) for sign in signs]


def _tree_or_stuck(book, seen):
    """(tree, None), by the least wanted look each time; or (None, form) with a stuck FORM."""
    side, numbers, places = _looked_at(book, seen)
    if side is not None:
        return (("found", side), None)
    if not places:
        return (None, seen)
    rows = []
    for sign, more in _branches(book, numbers, seen, places[0]):
        tree, form = _tree_or_stuck(book, more)
        if tree is None:
            return (None, form)
        rows.append((sign, tree))
    return (("look", places[0], tuple(rows)), None)


def tree_of(book, sign):
    """The TREE of sign that looks at the least wanted PLACE each time; None if sign has no TREE."""
    book = _plain_book(book)
    return _tree_or_stuck(book, _first_seen(book, sign))[0]


def stuck_form(book, sign):
    """A stuck FORM with this SIGN, in which no SIDE's SIGN but at () stands; None if sign has a TREE."""
    book = _plain_book(book)
    return _tree_or_stuck(book, _first_seen(book, sign))[1]


def _is_sign(thing, sign):
    """Whether thing is sign."""
    return is_pair(thing) and is_number(thing[1]) and thing == sign


def _is_tree(book, seen, thing):
    """Whether thing is a TREE for what is seen."""
    side, numbers, places = _looked_at(book, seen)
    if side is not None:
        return thing == ("found", side)
    if not isinstance(thing, tuple) or len(thing) != 3 or thing[0] != "look":
        return False
    place, rows = thing[1], thing[2]
    if not is_numbers(place) or place not in places or not isinstance(rows, tuple):
        return False
    own = _branches(book, numbers, seen, place)
    if len(rows) != len(own) or not all([is_pair(row) for row in rows]):
        return False
    return all([_is_sign(row[0], sign) and _is_tree(book, more, row[1]) for row, (sign, more) in zip(rows, own)])


def is_tree(book, sign, thing):
    """Whether thing is a TREE of sign."""
    book = _plain_book(book)
    return _is_tree(book, _first_seen(book, sign), thing)


def _key_of(numbers, seen):
    """What tells seen, with which these SIDES agree, apart from all else that is seen: FORMS are too deep for keys."""
    return (numbers, tuple([place for place, part in spots(seen) if part != OPEN]))


def _count(book, seen, kept):
    """How many TREES there are for what is seen; kept has what was counted."""
    side, numbers, places = _looked_at(book, seen)
    key = _key_of(numbers, seen)
    if key in kept:
        return kept[key]
    count = 0 if side is None else 1
    for place in places:
        ways = 1
        for _, more in _branches(book, numbers, seen, place):
            ways = ways * _count(book, more, kept)
        count += ways
    kept[key] = count
    return count


def count_trees(book, sign):
    """How many TREES sign has."""
    book = _plain_book(book)
    return _count(book, _first_seen(book, sign), {})


def _all_for(book, seen):
    """All TREES for what is seen."""
    side, numbers, places = _looked_at(book, seen)
    trees = [] if side is None else [("found", side)]
    for place in places:
        rows = [()]
        for sign, more in _branches(book, numbers, seen, place):
            own = _all_for(book, more)
            rows = [row + ((sign, tree),) for row in rows for tree in own]
        trees.extend([("look", place, row) for row in rows])
    return trees


def all_trees(book, sign):
    """The set of all TREES of sign."""
    many = count_trees(book, sign)
    if many > _MOST_TREES:
        raise TooMany()
    book = tupled(book)
    # Where there are none the search could be long all the same.
    return ascending(_all_for(book, _first_seen(book, sign))) if many else ()


def _best_for(book, seen, kept):
    """(looks, tree, height): the TREE with the fewest looks, the least of these, and the least height; or None."""
    side, numbers, places = _looked_at(book, seen)
    key = _key_of(numbers, seen)
    if key in kept:
        return kept[key]
    best = None if side is None else (0, ("found", side), 0)
    for place in places:
        own = [(sign, _best_for(book, more, kept)) for sign, more in _branches(book, numbers, seen, place)]
        if any([row is None for sign, row in own]):
            continue
        looks = 1 + sum([row[0] for sign, row in own])
        tree = ("look", place, tuple([(sign, row[1]) for sign, row in own]))
        height = 1 + max([row[2] for sign, row in own])
        if best is None:
            best = (looks, tree, height)
        else:
            best = min((looks, tree), best[:2]) + (min(height, best[2]),)
    kept[key] = best
    return best


def least_tree(book, sign):
    """Of the TREES of sign with the fewest looks in them the least; None if there is none."""
    book = _plain_book(book)
    best = _best_for(book, _first_seen(book, sign), {})
    return None if best is None else best[1]


def least_height(book, sign):
    """The least longest_in of the TREES of sign; None if there is none."""
    book = _plain_book(book)
    best = _best_for(book, _first_seen(book, sign), {})
    return None if best is None else best[2]


def _leaves(tree):
    """For each SIDE found in tree, a pair: it, and the tuple of the PLACES looked at on the way."""
    if tree[0] == "found":
        return [(tree[1], ())]
    return [(side, (tree[1],) + places) for sign, own in tree[2] for side, places in _leaves(own)]


def looks_in(tree):
    """How many looks tree has."""
    waiting, count = [tupled(tree)], 0
    while waiting:
        own = waiting.pop()
        if own[0] == "look":
            count += 1
            waiting.extend([pair[1] for pair in own[2]])
    return count


def longest_in(tree):
    """The most looks of tree that are one behind the other."""
    return max([len(places) for side, places in _leaves(tupled(tree))])


def ways_of(tree):
    """The set of the pairs of a SIDE found and the PLACES looked at on the way."""
    return ascending(_leaves(tupled(tree)))


def look_along(tree, form):
    """The PLACES looked at, and what comes: the SIDE found, None for a SIGN without a branch, () for OPEN."""
    tree, form = tupled(tree), tupled(form)
    places = []
    while tree[0] == "look":
        places.append(tree[1])
        sign = own_sign(standing_at(form, tree[1]))
        if sign is None:
            return (tuple(places), OPEN)
        branches = [own for other, own in tree[2] if other == sign]
        if not branches:
            return (tuple(places), None)
        tree = branches[0]
    return (tuple(places), tree[1])


def _trees_by_sign(book):
    """The TREE of each first SIGN, by tree_of."""
    return {sign: tree_of(book, sign) for sign in first_signs(book)}


def has_trees(book):
    """Whether each first SIGN has a TREE."""
    book = _plain_book(book)
    return all([tree_of(book, sign) is not None for sign in first_signs(book)])


def _next_along(tree, form, place, known):
    """The next PLACE of form, read from it, which stands at place; known has those of all below it."""
    while tree[0] == "look":
        own = known[place + tree[1]]
        if own is not None:
            return tree[1] + own
        sign = own_sign(standing_at(form, tree[1]))
        branches = [more for other, more in tree[2] if other == sign]
        if not branches:
            return None
        tree = branches[0]
    return ()


def _next_places(book, form):
    """The next PLACE of what stands at each PLACE of form, read from there; None where there is none."""
    trees, known = _trees_by_sign(book), {}
    if None in list(trees.values()):
        raise CanNot()
    for place, part in spots_from_below(form):
        if part == OPEN or first_fitting(book, part) is not None:
            known[place] = ()
        elif own_sign(part) in trees:
            known[place] = _next_along(trees[own_sign(part)], part, place, known)
        else:
            known[place] = None
    return known


def next_place(book, form):
    """The next PLACE of form; None if there is none."""
    return _next_places(_plain_book(book), tupled(form))[()]


def asked_for(book, form):
    """The set of the PLACES that form asks for."""
    form = tupled(form)
    known = _next_places(_plain_book(book), form)
    waiting, out = [()], []
    while waiting:
        place = waiting.pop()
        if known[place] is not None:
            out.append(place + known[place])
            continue
        waiting.extend([place + (number,) for number in range(len(standing_at(form, place)) - 1)])
    return tuple(sorted(out))
