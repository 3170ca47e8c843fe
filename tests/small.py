"""All small FORMS and SIDES, odd things, and plain readings of the document to compare with.

What is called plain here works straight from the words of the document, calls itself, and uses
nothing of the package.
"""

import itertools

A, B, C, END, MARK = ("a",), ("b",), ("c",), ("end",), ("mark",)
SIGNS = (("a", 0), ("b", 0), ("f", 2), ("g", 1))
FEW_SIGNS = (("a", 0), ("f", 2), ("g", 1))


def forms_of(signs, most):
    """All FORMS with these SIGNS and at most so many PLACES, those with fewer first."""
    by_size = {0: []}
    for size in range(1, most + 1):
        rows = [()] if size == 1 else []
        for name, many in signs:
            for sizes in itertools.product(range(1, size), repeat=many):
                if sum(sizes) == size - 1:
                    for parts in itertools.product(*[by_size[own] for own in sizes]):
                        rows.append((name,) + parts)
        by_size[size] = rows
    return [form for size in sorted(by_size) for form in by_size[size]]


def sides_of(signs, most, many):
    """All SIDES of at most so many FORMS with at most so many PLACES; clean or not."""
    own = sorted(form for form in forms_of(signs, most) if form)
    return [rows for size in range(many + 1) for rows in itertools.combinations(own, size)]


def plain_spots(form):
    """What stands in form, by PLACE."""
    rows = {(): form}
    for number, part in enumerate(form[1:]):
        for place, own in plain_spots(part).items():
            rows[(number,) + place] = own
    return rows


def plain_signs(sides):
    """The SIGNS of SIDES and PARTS."""
    return {(part[0], len(part) - 1) for side in sides for part in plain_spots(side).values() if part != ()}


def plain_put(form, place, other):
    """form with other put at place."""
    if not place:
        return other
    at = place[0] + 1
    return form[:at] + (plain_put(form[at], place[1:], other),) + form[at + 1:]


def plain_lies(form, other):
    """Whether form lies in other."""
    if form == ():
        return True
    if other == () or form[0] != other[0] or len(form) != len(other):
        return False
    return all(plain_lies(part, own) for part, own in zip(form[1:], other[1:]))


def plain_agree(form, other):
    """Whether form and other agree."""
    if form == () or other == ():
        return True
    if form[0] != other[0] or len(form) != len(other):
        return False
    return all(plain_agree(part, own) for part, own in zip(form[1:], other[1:]))


def plain_due(sides, form):
    """The due PLACES of form."""
    return sorted(place for place, part in plain_spots(form).items()
                  if any(plain_lies(side, part) for side in sides))


def plain_blot(sides, form):
    """The BLOT of form: strikes at the greatest PLACE that can be struck, again and again."""
    while True:
        places = [place for place, part in plain_spots(form).items()
                  if part != () and any(plain_agree(side, part) for side in sides)]
        if not places:
            return form
        form = plain_put(form, max(places), ())


def is_above(place, other):
    """Whether place is above other."""
    return len(place) < len(other) and other[:len(place)] == place


def plain_tasks(sides, form):
    """The TASKS of form."""
    due = plain_due(sides, form)
    outer = [place for place in due if not any(is_above(other, place) for other in due)]
    rows = outer + [place for place, part in plain_spots(form).items()
                    if part == () and not any(is_above(other, place) for other in due)]
    return sorted(rows)


def plain_calls(sides, form):
    """The PLACES of form at which a CALL can be made."""
    due = plain_due(sides, form)
    return sorted(place for place, part in plain_spots(form).items() if part == () or place in due)


def plain_ended(sides, form):
    """Whether form is ended."""
    return not plain_calls(sides, form)


def plain_marked(form, lot):
    """form with a mark at each of these PLACES; of those one below the other the one above counts."""
    for place in sorted(lot, reverse=True):
        form = plain_put(form, place, MARK)
    return form


def plain_bars(sides, form, lot):
    """Whether the mark is in the BLOT of form marked at lot."""
    return MARK in plain_spots(plain_blot(sides, plain_marked(form, lot))).values()


def plain_needed(book, form):
    """The needed TASKS of form."""
    return tuple(place for place in plain_tasks(book, form) if plain_bars(book, form, (place,)))


def subsets(rows):
    """All sets of these, those with fewer first."""
    return [own for size in range(len(rows) + 1) for own in itertools.combinations(rows, size)]


def reached(sides, form, answers, most, skip=None):
    """All FORMS of at most most PLACES that RUNS with these answers lead to.

    With skip, a PLACE, only RUNS are gone that spare it, as long as no CALL above it was made.
    """
    seen, waiting = {form}, [form]
    while waiting:
        left = waiting.pop()
        for place in plain_calls(sides, left):
            if skip is not None and place[:len(skip)] == skip:
                continue
            for answer in answers:
                out = plain_put(left, place, answer)
                if out not in seen and len(plain_spots(out)) <= most:
                    seen.add(out)
                    if skip is None or not is_above(place, skip):
                        waiting.append(out)
    return seen


def runs_of(sides, form, answers, many):
    """All RUNS of at most so many CALLS with these answers."""
    rows = [((), form)]
    out = [()]
    for _ in range(many):
        longer = []
        for run, left in rows:
            for place in plain_calls(sides, left):
                for answer in answers:
                    longer.append((run + ((place, answer),), plain_put(left, place, answer)))
        rows = longer
        out.extend(run for run, _ in rows)
    return out


def as_lists(value):
    """value with lists in the place of its tuples, at any depth."""
    if isinstance(value, (list, tuple)):
        return [as_lists(part) for part in value]
    return value


def mixed(value, turn=0):
    """value with lists in the place of every second tuple, level by level."""
    if isinstance(value, (list, tuple)):
        parts = [mixed(part, turn + 1) for part in value]
        return parts if turn % 2 else tuple(parts)
    return value


def nested(kind, depth):
    """An empty kind, list or tuple, in so many levels of itself."""
    value = kind()
    for _ in range(depth - 1):
        value = kind([value])
    return value


def tower(depth):
    """The FORM g(g(.. g(_))) that is nested so deep."""
    form = ()
    for _ in range(depth - 1):
        form = ("g", form)
    return form


def odd_things():
    """Things of every kind, none of which is a tuple of one or more tuples."""
    return [0, 1, -1, 2, 10 ** 30, True, False, None, "", "a", "f", "end", "mark", "abcdefghi", "A",
            [], [0], ["a"], [[]], [()], [("a",)], [["a"]], nested(list, 20), ["f", [], []],
            (0,), (True,), (None,), (1, 2), ("",), ("A",), ("a1",), ("a b",), ("abcdefghi",), ("f", 0),
            ("f", None), ("f", "a"), ("f", True), ("f", []), ("f", ["a"]), ("f", (), [], ()),
            ("f", (), (), (), ()), ("f", ("g", ("A",))), ("f", ("g", 0)), ("\u00e9",), ("a\n",),
            (0, ()), (True, ()), (None, ()), ([], ())]


def more_things():
    """Tuples that begin with a tuple: no FORMS, but maybe SIDES, RUNS, STRIKES of some FORM."""
    return [((),), nested(tuple, 20), ((), ()), (((),),), (((), ()),), (((), (), ()),), ((0,),), ((0,), ()),
            ((("a",),),), (((), 0),), (((), True),), (((), None),), (((), "a"),), (((0,), 0),), (((0,), ("a",)),),
            (((True,), ("a",)),), (((-1,), ("a",)),), (([0], ("a",)),), (((0,), ["a"]),), [((0,), ("a",))],
            ((0, ("a",)),), (((0,), ("a",), ()),), (((0,), ("A",)),), ((0, 1, ()),), (((0,), 10 ** 30),)]
