"""What can still become of a FORM: RUNS to other FORMS, ENDS, and ENDS in common."""

from notinvain.blots import blot_of, pass_from_below
from notinvain.errors import CanNot
from notinvain.forms import joined_all, odds_of
from notinvain.runs import is_ended
from notinvain.trees import OPEN, agree, lies, open_in, part_at, put_all, spots_from_below, tupled


def closed(form, name):
    """form with name, without parts, in the place of each OPEN."""
    table = {}
    for place in open_in(form):
        table[place] = (name,)
    return put_all(form, table)


def can_become(sides, form, wish):
    """Whether some RUN of form leads to wish."""
    return lies(blot_of(tupled(sides), tupled(form)), tupled(wish))


def _wanted_below(side, node):
    """The CALLS that make side fit node, which it agrees with: a dict of their answers by PLACE."""
    wanted = {}
    for place in open_in(node):
        part = part_at(side, place)
        if part is not None and part != OPEN:
            wanted[place] = closed(part, "end")
    return wanted


def _wanted_answers(sides, form, wish):
    """The answers, by PLACE, of the CALLS of made_into."""
    struck = {}
    for place, node, number in pass_from_below(sides, form):
        if number is not None:
            struck[place] = (node, sides[number])
    wanted = {}
    for place in open_in(blot_of(sides, form)):
        wanted[place] = part_at(wish, place)
    waiting = list(wanted)
    while waiting:
        place = waiting.pop()
        if place not in struck:
            continue
        node, side = struck[place]
        answers = _wanted_below(side, node)
        for below in answers:
            wanted[place + below] = answers[below]
            waiting.append(place + below)
    return wanted


def made_into(sides, form, wish):
    """A RUN of form that leads to wish."""
    sides, form, wish = tupled(sides), tupled(form), tupled(wish)
    if not lies(blot_of(sides, form), wish):
        raise CanNot()
    wanted = _wanted_answers(sides, form, wish)
    # From below: a SIDE fits once the CALLS below its PLACE are made.
    return tuple([(place, wanted[place]) for place, _ in spots_from_below(form) if place in wanted])


def made_end(sides, form, name):
    """A RUN of form to the END that has name in the place of each OPEN of the BLOT."""
    whole = blot_of(tupled(sides), tupled(form))
    return made_into(sides, form, closed(whole, name))


def is_end_of(sides, form, other):
    """Whether other is an END of form."""
    return is_ended(sides, other) and can_become(sides, form, other)


def can_meet(sides, form, other):
    """Whether form and other have an END in common."""
    sides = tupled(sides)
    return agree(blot_of(sides, tupled(form)), blot_of(sides, tupled(other)))


def common_end(sides, parts):
    """An END that all parts have in common."""
    sides = tupled(sides)
    return closed(joined_all([blot_of(sides, part) for part in tupled(parts)]), "end")


def parting_place(sides, form, other):
    """The least PLACE of both BLOTS at which unlike SIGNS stand; None if form and other can meet."""
    sides = tupled(sides)
    return odds_of(blot_of(sides, tupled(form)), blot_of(sides, tupled(other)))
