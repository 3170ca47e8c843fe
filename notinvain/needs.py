"""Calls that cannot be spared: needed TASKS, RUNS that spare the others, and papers for both."""

from notinvain.blots import blot, blot_rows, is_whole, struck
from notinvain.ends import made_end
from notinvain.errors import CanNot
from notinvain.forms import has_name
from notinvain.runs import called, is_below, is_ended, tasks
from notinvain.trees import put_all, standing_at, tupled

_MARK = ("mark",)


def marked(form, lot):
    """form with ("mark",) at each PLACE of lot."""
    form, lot = tupled(form), tupled(lot)
    table = {}
    for place in lot:
        standing_at(form, place)
        table[place] = _MARK
    return put_all(form, table)


def _marked_task(book, form, place):
    """form marked at place, which ought to be a TASK."""
    place = tupled(place)
    whole = marked(form, (place,))
    if place not in tasks(book, form):
        raise CanNot()
    return whole


def is_needed(book, form, place):
    """Whether the TASK at place is needed."""
    return has_name(blot(book, _marked_task(book, form, place)), "mark")


def _by_need(book, form):
    """The pairs of a TASK and whether it is needed, ascending."""
    rows = []
    for place in tasks(book, form):
        rows.append((place, has_name(blot(book, marked(form, (place,))), "mark")))
    return rows


def needed_tasks(book, form):
    """The set of the needed TASKS."""
    return tuple([place for place, needed in _by_need(book, form) if needed])


def spare_tasks(book, form):
    """The set of the TASKS that are not needed."""
    return tuple([place for place, needed in _by_need(book, form) if not needed])


def first_needed(book, form):
    """The least needed TASK; None if there is none."""
    places = needed_tasks(book, form)
    return places[0] if places else None


def run_without(book, form, place):
    """A RUN to an END that spares the TASK at place; None if it is needed."""
    whole = _marked_task(book, form, place)
    if has_name(blot(book, whole), "mark"):
        return None
    # No mark is ever called, and what fits above one fits above whatever stands there.
    return made_end(book, whole, "end")


def spares(form, run, place):
    """Whether run spares place."""
    place = tupled(place)
    standing_at(tupled(form), place)
    for own, _ in tupled(run):
        if is_below(place, own):
            return True
        if own == place or is_below(own, place):
            return False
    return True


def call_of(form, run, place):
    """The number of the first CALL by which run calls place; None if it does not."""
    place = tupled(place)
    standing_at(tupled(form), place)
    for number, call in enumerate(tupled(run)):
        if is_below(place, call[0]):
            return None
        if call[0] == place:
            return number
    return None


def why_needed(book, form, place):
    """Whole STRIKES of form marked at place that leave the mark; None if the TASK is not needed."""
    whole = _marked_task(book, form, place)
    return blot_rows(book, whole) if has_name(blot(book, whole), "mark") else None


def is_why_needed(book, form, place, thing):
    """Whether thing is such STRIKES."""
    whole = _marked_task(book, form, place)
    return is_whole(book, whole, thing) and has_name(struck(book, whole, thing), "mark")


def need_run(book, form, answers):
    """The RUN that calls the least needed TASK with one answer after another."""
    run, left = [], tupled(form)
    for answer in tupled(answers):
        place = first_needed(book, left)
        if place is None and is_ended(book, left):
            break
        if place is None:
            raise CanNot()
        run.append((place, answer))
        left = called(book, left, place, answer)
    return tuple(run)
