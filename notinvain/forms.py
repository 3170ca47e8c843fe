"""FORMS: what stands where in them, how they lie in one another, their spelling."""

from notinvain.errors import CanNot, Unfit
from notinvain.trees import OPEN, agree, ascending, is_name, is_number, is_pair, join_of, lies
from notinvain.trees import open_in, own_sign, part_at, put_all, spots, standing_at, tupled


def is_form(thing):
    """Whether thing is a FORM."""
    waiting = [thing]
    while waiting:
        part = waiting.pop()
        if not isinstance(part, tuple) or len(part) > 4:
            return False
        if part != OPEN and not is_name(part[0]):
            return False
        waiting.extend(part[1:])
    return True


def is_term(form):
    """Whether form has no OPEN PLACE."""
    return not open_in(tupled(form))


def sign_of(form):
    """The SIGN of form; None if it is OPEN."""
    return own_sign(tupled(form))


def signs_in(form):
    """The set of the SIGNS of all that stands in form and is not OPEN."""
    return ascending([own_sign(part) for place, part in spots(tupled(form)) if part != OPEN])


def has_name(form, name):
    """Whether something that stands in form has this NAME."""
    return any([part[0] == name for place, part in spots(tupled(form)) if part != OPEN])


def size_of(form):
    """The number of PLACES of form."""
    return len(spots(tupled(form)))


def places_of(form):
    """The set of the PLACES of form."""
    return tuple([place for place, part in spots(tupled(form))])


def open_places(form):
    """The set of the PLACES of form at which OPEN stands."""
    return open_in(tupled(form))


def stands_at(form, place):
    """What stands in form at place."""
    return standing_at(tupled(form), tupled(place))


def put_at(form, place, other):
    """form with other put at place."""
    form, place = tupled(form), tupled(place)
    standing_at(form, place)
    return put_all(form, {place: tupled(other)})


def with_parts(form, parts):
    """form with parts put at its OPEN PLACES, in their ascending order."""
    form, parts = tupled(form), tupled(parts)
    places = open_in(form)
    if len(places) != len(parts):
        raise Unfit()
    return put_all(form, dict(zip(places, parts)))


def filling(form, other):
    """What stands in other at the OPEN PLACES of form; None if form does not lie in other."""
    form, other = tupled(form), tupled(other)
    if not lies(form, other):
        return None
    return tuple([part_at(other, place) for place in open_in(form)])


def lies_in(form, other):
    """Whether form lies in other."""
    return lies(tupled(form), tupled(other))


def do_agree(form, other):
    """Whether form and other agree."""
    return agree(tupled(form), tupled(other))


def odds_of(form, other):
    """The least PLACE that is at odds in form and other; None if there is none."""
    other = tupled(other)
    for place, part in spots(tupled(form)):
        sign = own_sign(part)
        own = own_sign(part_at(other, place) or OPEN)
        if sign is not None and own is not None and sign != own:
            return place
    return None


def joined(form, other):
    """The join of form and other."""
    form, other = tupled(form), tupled(other)
    if not agree(form, other):
        raise CanNot()
    return join_of(form, other)


def joined_all(parts):
    """The least FORM in which all parts lie."""
    whole = OPEN
    for part in tupled(parts):
        whole = joined(whole, part)
    return whole


def met_form(form, other):
    """The meet of form and other."""
    form, other = tupled(form), tupled(other)
    table = {}
    for place, part in spots(form):
        if own_sign(part) != own_sign(part_at(other, place) or OPEN):
            table[place] = OPEN
    return put_all(form, table)


def spelling_of(form):
    """The SIGNS of what stands at the PLACES of form, ascending by PLACE; () for OPEN."""
    return tuple([own_sign(part) or () for place, part in spots(tupled(form))])


def is_sign(thing):
    """Whether thing is the SIGN of some FORM."""
    return is_pair(thing) and is_name(thing[0]) and is_number(thing[1]) and 0 <= thing[1] <= 3


def form_spelled(row):
    """The FORM whose spelling is row."""
    done = []
    # From behind: the parts of a SIGN are read by then, its first part last.
    for sign in tupled(row)[::-1]:
        if sign == ():
            done.append(OPEN)
            continue
        if not is_sign(sign) or sign[1] > len(done):
            raise CanNot()
        start = len(done) - sign[1]
        node = (sign[0],) + tuple(done[start:][::-1])
        del done[start:]
        done.append(node)
    if len(done) != 1:
        raise CanNot()
    return done[0]
