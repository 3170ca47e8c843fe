"""Due places, skeletons and tasks; calls, runs, and which of their calls are washed away."""

from notinvain.errors import CanNot, NoNumber
from notinvain.forms import is_form
from notinvain.trees import OPEN, first_fitting, is_pair, open_in, part_at, put_all, spots, standing_at
from notinvain.trees import tupled


def is_below(place, other):
    """Whether place is below other."""
    return len(place) > len(other) and place[:len(other)] == other


def _due_in(sides, form):
    """The due PLACES of form, ascending."""
    return tuple([place for place, part in spots(form) if first_fitting(sides, part) is not None])


def due_places(sides, form):
    """The set of the due PLACES."""
    return _due_in(tupled(sides), tupled(form))


def side_at(sides, form, place):
    """The least SIDE that fits what stands at place; None if none does."""
    sides = tupled(sides)
    number = first_fitting(sides, standing_at(tupled(form), tupled(place)))
    return None if number is None else sides[number]


def is_standing(sides, form):
    """Whether no PLACE of form is due."""
    return not due_places(sides, form)


def is_ended(sides, form):
    """Whether form is a standing TERM."""
    return is_standing(sides, form) and not open_in(tupled(form))


def outermost_due(sides, form):
    """The set of the due PLACES above which none is due."""
    places = due_places(sides, form)
    out = []
    for place in places:
        # Ascending: what is above a PLACE stands ahead of it, and so does all that is below that.
        if not out or not is_below(place, out[-1]):
            out.append(place)
    return tuple(out)


def skeleton(sides, form):
    """form with OPEN put at each due PLACE above which none is due."""
    table = {}
    for place in outermost_due(sides, form):
        table[place] = OPEN
    return put_all(tupled(form), table)


def tasks(sides, form):
    """The set of the PLACES at which OPEN stands in the SKELETON."""
    return open_in(skeleton(sides, form))


def _can_call_for(sides, part):
    """Whether a CALL can be made where part stands; part is None for no PLACE."""
    return part is not None and (part == OPEN or first_fitting(sides, part) is not None)


def can_call(sides, form, place):
    """Whether a CALL can be made at place."""
    return _can_call_for(tupled(sides), standing_at(tupled(form), tupled(place)))


def called(sides, form, place, answer):
    """The FORM that the CALL (place, answer) leaves."""
    if not can_call(sides, form, place):
        raise CanNot()
    return put_all(tupled(form), {tupled(place): tupled(answer)})


def _is_call(sides, form, thing):
    """Whether thing is a CALL at form."""
    if not is_pair(thing) or not is_form(thing[1]):
        return False
    return _can_call_for(sides, part_at(form, thing[0]))


def _along(sides, form, run):
    """form and what each CALL of run leaves, in order; None if run is no RUN of form."""
    if not isinstance(run, tuple):
        return None
    left = [form]
    for call in run:
        if not _is_call(sides, left[-1], call):
            return None
        left.append(put_all(left[-1], {call[0]: call[1]}))
    return tuple(left)


def is_run(sides, form, thing):
    """Whether thing is a RUN of form."""
    return _along(tupled(sides), tupled(form), thing) is not None


def led(sides, form, run):
    """The FORM that run leads to."""
    return forms_along(sides, form, run)[-1]


def forms_along(sides, form, run):
    """The tuple of form and what each CALL of run leaves, in order."""
    left = _along(tupled(sides), tupled(form), tupled(run))
    if left is None:
        raise CanNot()
    return left


def answered(sides, form, answers):
    """The SKELETON with answers at the TASKS, the first one at the least."""
    answers = tupled(answers)
    whole = skeleton(sides, form)
    places = open_in(whole)
    if len(places) != len(answers):
        raise CanNot()
    return put_all(whole, dict(zip(places, answers)))


def exchanged(sides, form, run, number):
    """run with CALL number and the next one exchanged."""
    run = tupled(run)
    if not 0 <= number < len(run) - 1:
        raise NoNumber(number)
    if not is_run(sides, form, run):
        raise CanNot()
    one, two = run[number], run[number + 1]
    if one[0] == two[0] or is_below(one[0], two[0]) or is_below(two[0], one[0]):
        raise CanNot()
    return run[:number] + (two, one) + run[number + 2:]


def _washed_by(book, left, run, number):
    """The numbers of the CALLS that CALL number of run washes away; left is what forms_along tells."""
    place = run[number][0]
    least = number
    for ahead in reversed(range(number)):
        if is_below(place, run[ahead][0]):
            break
        if _can_call_for(book, part_at(left[ahead], place)):
            least = ahead
    return [own for own in range(least, number) if run[own][0][:len(place)] == place]


def washed(book, form, run):
    """The set of the numbers of the CALLS of run that are washed away."""
    book, run = tupled(book), tupled(run)
    left = forms_along(book, form, run)
    gone = [own for number in range(len(run)) for own in _washed_by(book, left, run, number)]
    return tuple(sorted(set(gone)))


def unwashed(book, form, run):
    """run without the CALLS that are washed away."""
    run = tupled(run)
    gone = washed(book, form, run)
    return tuple([call for number, call in enumerate(run) if number not in gone])
