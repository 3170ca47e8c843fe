"""TREES of looks, for plain BOOKS: which PLACE a FORM asks for next."""

from notinvain.books import first_signs, is_plain
from notinvain.errors import CanNot, TooMany
from notinvain.trees import OPEN, agree, ascending, first_fitting, flat, is_number, is_numbers, is_pair, lies
from notinvain.trees import open_form, open_in, own_sign, part_at, put_all, same, spots_from_below, standing_at, tupled

_MOST_TREES = 60


def _plain_book(book):
    """book, which ought to be plain."""
    if not is_plain(book):
        raise CanNot()
    return tupled(book)


def _first_seen(book, sign):
    """What is seen first of sign, which ought to be the SIGN of a SIDE."""
    sign = tupled(sign)
    if sign not in first_signs(book):
        raise CanNot()
    return open_form(sign)


def _looked_at(book, form):
    """Of form three: the SIDE that fits it, or None; the numbers of those that agree; the wanted looks, ascending."""
    numbers = tuple([number for number, side in enumerate(book) if agree(side, form)])
    fits = [book[own] for own in numbers if lies(book[own], form)]
    if fits or not numbers:
        return (fits[0] if fits else None, numbers, ())
    places = [place for place in open_in(form) if all([part_at(book[own], place) for own in numbers])]
    return (None, numbers, tuple(places))


def wanted_looks(book, form):
    """The set of the PLACES of form at which a look is wanted."""
    return _looked_at(_plain_book(book), tupled(form))[2]


def is_stuck(book, form):
    """Whether form is stuck."""
    book, form = _plain_book(book), tupled(form)
    side, numbers, places = _looked_at(book, form)
    return own_sign(form) in first_signs(book) and bool(numbers) and side is None and not places


def _branches(book, numbers, seen, place):
    """The pairs of a SIGN that one of these SIDES has at place, and what is seen of it there."""
    signs = ascending([own_sign(part_at(book[own], place)) for own in numbers])
    return [(sign, put_all(seen, {place: open_form(sign)})) for sign in signs]


def tree_over(nodes):
    """The TREE of nodes, each ahead of those of its branches: ("found", side), or ("look", place, signs)."""
    done = []
    # From behind: the TREES of the branches of a look are there by then, the first one last.
    for node in nodes[::-1]:
        if node[0] == "found":
            done.append(node)
            continue
        word, place, signs = node
        start = len(done) - len(signs)
        branches = tuple(zip(signs, done[start:][::-1]))
        del done[start:]
        done.append((word, place, branches))
    return done[0]


def _tree_or_stuck(book, seen):
    """(tree, None), by the least wanted look each time; or (None, form) with a stuck FORM."""
    waiting, nodes = [seen], []
    while waiting:
        form = waiting.pop()
        side, numbers, places = _looked_at(book, form)
        if side is not None:
            nodes.append(("found", side))
            continue
        if not places:
            return (None, form)
        rows = _branches(book, numbers, form, places[0])
        nodes.append(("look", places[0], [sign for sign, more in rows]))
        waiting.extend([more for sign, more in rows][::-1])
    return (tree_over(nodes), None)


def tree_of(book, sign):
    """The TREE of sign that looks at the least wanted PLACE each time; None if sign has no TREE."""
    book = _plain_book(book)
    return _tree_or_stuck(book, _first_seen(book, sign))[0]


def stuck_form(book, sign):
    """A stuck FORM with this SIGN, in which no SIDE's SIGN but at () stands; None if sign has a TREE."""
    book = _plain_book(book)
    return _tree_or_stuck(book, _first_seen(book, sign))[1]


def _is_sign(thing, sign):
    """Whether thing is sign."""
    return is_pair(thing) and is_number(thing[1]) and thing == sign


def _below(book, seen, thing):
    """What is seen in each branch of thing, with what ought to be a TREE for it; None if thing is no TREE for seen."""
    side, numbers, places = _looked_at(book, seen)
    if side is not None:
        return [] if same(thing, ("found", side)) else None
    if not isinstance(thing, tuple) or len(thing) != 3 or thing[0] != "look":
        return None
    place, rows = thing[1], thing[2]
    if not is_numbers(place) or place not in places or not isinstance(rows, tuple):
        return None
    own = _branches(book, numbers, seen, place)
    if len(rows) != len(own) or not all([is_pair(row) for row in rows]):
        return None
    if not all([_is_sign(row[0], sign) for row, (sign, more) in zip(rows, own)]):
        return None
    return [(more, row[1]) for row, (sign, more) in zip(rows, own)]


def is_tree(book, sign, thing):
    """Whether thing is a TREE of sign."""
    book = _plain_book(book)
    waiting = [(_first_seen(book, sign), thing)]
    while waiting:
        seen, own = waiting.pop()
        below = _below(book, seen, own)
        if below is None:
            return False
        waiting.extend(below)
    return True


def _all_seen(book, seen):
    """All that can be seen from seen on, told by numbers from 0, what is seen behind a look behind it.

    Pairs (side, looks): side fits, or is None; looks are pairs of a wanted PLACE and, for each branch, the
    pair of its SIGN and the number of what is seen there.
    """
    forms, number_of, out = [seen], {}, []
    while len(out) < len(forms):
        form, looks = forms[len(out)], []
        side, numbers, places = _looked_at(book, form)
        for place in places:
            branches = []
            for sign, more in _branches(book, numbers, form, place):
                own = flat(more)
                if own not in number_of:
                    number_of[own] = len(forms)
                    forms.append(more)
                branches.append((sign, number_of[own]))
            looks.append((place, branches))
        out.append((side, looks))
    return out


def _counts(rows):
    """By number how many TREES there are for what is seen; rows are as _all_seen tells them."""
    counts = {}
    for number in reversed(range(len(rows))):
        side, looks = rows[number]
        counts[number] = 0 if side is None else 1
        for _, branches in looks:
            ways = 1
            for _, behind in branches:
                ways = ways * counts[behind]
            counts[number] += ways
    return counts


def count_trees(book, sign):
    """How many TREES sign has."""
    book = _plain_book(book)
    return _counts(_all_seen(book, _first_seen(book, sign)))[0]


def _trees_over(side, looks, trees):
    """All TREES for what is seen, which side fits if it is not None; trees has those behind looks."""
    out = [] if side is None else [("found", side)]
    for place, branches in looks:
        # Where a branch has none, there is no need to go through those of the others.
        rows = [()] if all([trees[behind] for sign, behind in branches]) else []
        for sign, behind in branches:
            rows = [row + ((sign, tree),) for row in rows for tree in trees[behind]]
        out.extend([("look", place, row) for row in rows])
    return out


def all_trees(book, sign):
    """The set of all TREES of sign."""
    book = _plain_book(book)
    rows = _all_seen(book, _first_seen(book, sign))
    counts, trees = _counts(rows), {}
    if counts[0] > _MOST_TREES:
        raise TooMany()
    for number in reversed(range(len(rows))):
        side, looks = rows[number]
        # What has more TREES is in none of sign, which has no more.
        trees[number] = _trees_over(side, looks, trees) if counts[number] <= _MOST_TREES else []
    return ascending(trees[0])


def _best_over(side, looks, best):
    """(looks, tree, height): the TREE with the fewest looks, the least of these, and the least height; or None."""
    if side is not None:
        return (0, ("found", side), 0)
    rows = []
    for place, branches in looks:
        own = [(sign, best[behind]) for sign, behind in branches]
        if not any([row is None for sign, row in own]):
            tree = ("look", place, tuple([(sign, row[1]) for sign, row in own]))
            rows.append((1 + sum([row[0] for sign, row in own]), tree, 1 + max([row[2] for sign, row in own])))
    if not rows:
        return None
    fewest = min([row[0] for row in rows])
    # The PLACES ascend, so the first one is the least.
    tree = [row[1] for row in rows if row[0] == fewest][0]
    return (fewest, tree, min([row[2] for row in rows]))


def _best_of(book, sign):
    """What _best_over tells of what is seen first of sign."""
    book, best = _plain_book(book), {}
    rows = _all_seen(book, _first_seen(book, sign))
    for number in reversed(range(len(rows))):
        side, looks = rows[number]
        best[number] = _best_over(side, looks, best)
    return best[0]


def least_tree(book, sign):
    """Of the TREES of sign with the fewest looks in them the least; None if there is none."""
    best = _best_of(book, sign)
    return None if best is None else best[1]


def least_height(book, sign):
    """The least longest_in of the TREES of sign; None if there is none."""
    best = _best_of(book, sign)
    return None if best is None else best[2]


def looks_in(tree):
    """How many looks tree has."""
    waiting, count = [tupled(tree)], 0
    while waiting:
        own = waiting.pop()
        if own[0] == "look":
            count += 1
            waiting.extend([pair[1] for pair in own[2]])
    return count


def longest_in(tree):
    """The most looks of tree that are one behind the other."""
    waiting, most = [(tupled(tree), 0)], 0
    while waiting:
        own, count = waiting.pop()
        most = max(most, count)
        if own[0] == "look":
            waiting.extend([(pair[1], count + 1) for pair in own[2]])
    return most


def ways_of(tree):
    """The set of the pairs of a SIDE found and the PLACES looked at on the way."""
    waiting, out = [(tupled(tree), ())], []
    while waiting:
        own, places = waiting.pop()
        if own[0] == "found":
            out.append((own[1], places))
        else:
            waiting.extend([(pair[1], places + (own[1],)) for pair in own[2]])
    return ascending(out)


def look_along(tree, form):
    """The PLACES looked at, and what comes: the SIDE found, None for a SIGN without a branch, () for OPEN."""
    tree, form = tupled(tree), tupled(form)
    places = []
    while tree[0] == "look":
        places.append(tree[1])
        sign = own_sign(standing_at(form, tree[1]))
        if sign is None:
            return (tuple(places), OPEN)
        branches = [own for other, own in tree[2] if other == sign]
        if not branches:
            return (tuple(places), None)
        tree = branches[0]
    return (tuple(places), tree[1])


def _trees_by_sign(book):
    """The TREE of each first SIGN, by tree_of."""
    return {sign: tree_of(book, sign) for sign in first_signs(book)}


def has_trees(book):
    """Whether each first SIGN has a TREE."""
    book = _plain_book(book)
    return all([tree_of(book, sign) is not None for sign in first_signs(book)])


def _next_along(tree, form, place, known):
    """The next PLACE of form, read from it, which stands at place; known has those of all below it."""
    while tree[0] == "look":
        own = known[place + tree[1]]
        if own is not None:
            return tree[1] + own
        sign = own_sign(standing_at(form, tree[1]))
        branches = [more for other, more in tree[2] if other == sign]
        if not branches:
            return None
        tree = branches[0]
    return ()


def _next_places(book, form):
    """The next PLACE of what stands at each PLACE of form, read from there; None where there is none."""
    trees, known = _trees_by_sign(book), {}
    if None in list(trees.values()):
        raise CanNot()
    for place, part in spots_from_below(form):
        if part == OPEN or first_fitting(book, part) is not None:
            known[place] = ()
        elif own_sign(part) in trees:
            known[place] = _next_along(trees[own_sign(part)], part, place, known)
        else:
            known[place] = None
    return known


def next_place(book, form):
    """The next PLACE of form; None if there is none."""
    return _next_places(_plain_book(book), tupled(form))[()]


def asked_for(book, form):
    """The set of the PLACES that form asks for."""
    form = tupled(form)
    known = _next_places(_plain_book(book), form)
    waiting, out = [()], []
    while waiting:
        place = waiting.pop()
        if known[place] is not None:
            out.append(place + known[place])
            continue
        waiting.extend([place + (number,) for number in range(len(standing_at(form, place)) - 1)])
    return tuple(sorted(out))
