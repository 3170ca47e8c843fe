"""Foes: they answer so that far more is called than is enough, and tell a WORLD in which it was so."""

from notinvain.cells import cells_of, checked_call, tasks_in
from notinvain.errors import CanNot, TooMany, Unfit
from notinvain.forms import has_name, is_form
from notinvain.lots import least_enough, run_within
from notinvain.rows import row_if_standing
from notinvain.trees import OPEN, open_in, spots, tupled

_ROOT = (0,)
_END = ("end",)
_MOST_OPEN = 10


def is_seed(book, thing):
    """Whether thing is a SEED of book: it stands, is struck whole, and no TASK of it is needed."""
    if not is_form(thing) or has_name(thing, "mark"):
        return False
    row = row_if_standing(book, thing)
    return row is not None and row[0] == 2 and row[3] == ()


def _checked_seed(book, seed):
    """seed, which ought to be a SEED with no more than 10 OPEN PLACES."""
    seed = tupled(seed)
    if not is_seed(book, seed):
        raise Unfit()
    if len(open_in(seed)) > _MOST_OPEN:
        raise TooMany()
    return seed


def ways(book, seed):
    """A way for each least enough LOT of seed: the pair of the LOT and a RUN that calls just its TASKS."""
    seed = _checked_seed(book, seed)
    return tuple([(lot, run_within(book, seed, lot)) for lot in least_enough(book, seed)])


def slack(book, seed, level):
    """How many calls more than its share a play of this level may be worth."""
    seed = _checked_seed(book, seed)
    many = len(open_in(seed))
    others, out = len(spots(seed)) - many, 1
    for _ in range(level):
        out = 1 + others + (many - 1) * out
    return out


def _power(base, level):
    """base, level times multiplied."""
    out = 1
    for _ in range(level):
        out = out * base
    return out


def _world_of(replies):
    """The WORLD with these REPLIES, a dict by cell name."""
    return tuple([(cell, replies[cell]) for cell in sorted(replies) if replies[cell] != _END])


def _answers_without(rows, place):
    """What the RUN of the first of these ways whose LOT lacks place puts where: a dict by PLACE."""
    return dict(list([run for lot, run in rows if place not in lot][0]))


class Play:
    """A play of some level: its part of whole, another play or None, at place there.

    trail has the CELLS at which it waited itself, pieces its parts by their PLACES, and answers what is
    put at these by the way that was chosen.
    """

    def __init__(self, cell, level, whole, place):
        self.trail, self.level, self.whole, self.place = [cell], level, whole, place
        self.pieces, self.answers = {}, None

    def weight(self):
        """How many calls were made where it waited."""
        own = 1 if self.pieces else len(self.trail) - 1
        return own + sum([piece.weight() for piece in list(self.pieces.values())])


class Plays:
    """The CELLS of a HOUSE, its tasks, at each of which a play begins, and where these wait, by CELL."""

    def __init__(self, book, seed, house, level):
        self.cells = cells_of(book, house)
        self.tasks = tasks_in(self.cells)
        if not self.tasks:
            raise CanNot()
        self.rows, self.seed = ways(book, seed), tupled(seed)
        self.begun = [Play(cell, level, None, None) for cell in self.tasks]
        self.waits = {play.trail[0]: play for play in self.begun}
        self.inner, self.calls = {}, []

    def grow(self, play):
        """Begins the parts of play, behind its first call."""
        for number, (place, part) in enumerate(spots(self.seed)):
            cell = play.trail[0] + (number,)
            if part == OPEN:
                play.pieces[place] = Play(cell, play.level - 1, play, place)
                self.waits[cell] = play.pieces[place]
            else:
                self.inner[cell] = (play, place)

    def take(self, cell, reply):
        """Makes the call (cell, reply)."""
        self.cells.make(cell, reply)
        self.calls.append(cell)

    def all_replies(self, more):
        """All REPLIES made, and those of the dict more."""
        out = {cell: self.cells.replies[cell] for cell in self.cells.replies}
        for cell in more:
            out[cell] = more[cell]
        return out


def _open_reply(plays, cell):
    """The REPLY of a Foe that is not settled."""
    play = plays.waits.pop(cell, None)
    if play is None:
        return _END
    if play.level > 0:
        plays.grow(play)
        return plays.seed
    play.trail.append(cell + (0,))
    plays.waits[cell + (0,)] = play
    return OPEN


def _settled(plays, play, form, told):
    """Settles play for form: tells REPLIES in the dict told; the list of the calls that take part."""
    if not play.pieces:
        told[play.trail[-1]] = form
        return list(play.trail)
    counts = {place: play.pieces[place].weight() for place in play.pieces}
    fewest = min([sum([counts[place] for place in lot]) for lot, run in plays.rows])
    run = [run for lot, run in plays.rows if sum([counts[place] for place in lot]) == fewest][0]
    node_of = {place: number for number, (place, part) in enumerate(spots(plays.seed))}
    out = [play.trail[0]]
    for place, answer in run:
        if place in play.pieces:
            out.extend(_settled(plays, play.pieces[place], answer, told))
        else:
            cell = play.trail[0] + (node_of[place],)
            told[cell] = form if place == () else answer
            out.append(cell)
    return out


class Foe:
    """Tells nothing as long as it can; once settled, a WORLD in which few of the calls were enough."""

    def __init__(self, book, seed, house, level):
        self._plays = Plays(book, seed, house, level)
        self._level, self._slack = level, slack(book, seed, level)
        self._told, self._taking = None, ()

    def call(self, cell):
        """Calls a CELL; the REPLY."""
        cell = checked_call(self._plays.cells, cell)
        reply = _open_reply(self._plays, cell) if self._told is None else self._told.get(cell, _END)
        self._plays.take(cell, reply)
        return reply

    def waiting(self):
        """The set of the CELLS where plays wait; () once settled."""
        return tuple(sorted(self._plays.waits)) if self._told is None else ()

    def house(self):
        """The HOUSE with the calls made."""
        return self._plays.cells.house()

    def log(self):
        """The LOG of the calls made."""
        return tuple(self._plays.calls)

    def __len__(self):
        """How many calls were made."""
        return len(self._plays.calls)

    def bound(self):
        """The pair of numbers whose quotient is at least how many calls the least lot has, at settling."""
        many = len(open_in(self._plays.seed))
        under = _power(many, self._level)
        top = len(self._plays.calls) * _power(many - 1, self._level)
        return (top + len(self._plays.tasks) * self._slack * under, under)

    def settle(self):
        """Tells all further REPLIES."""
        if self._told is not None:
            raise CanNot()
        told, taking = {}, []
        for play in self._plays.begun:
            taking.extend(_settled(self._plays, play, _END, told))
        self._told, self._taking = told, tuple(taking)

    def world(self):
        """The WORLD of all REPLIES, made and told."""
        if self._told is None:
            raise CanNot()
        return _world_of(self._plays.all_replies(self._told))

    def enough(self):
        """The LOG of the calls that take part in the settling."""
        if self._told is None:
            raise CanNot()
        return self._taking


def _last_reply(plays, play):
    """The last REPLY of play: for the first part of a play that comes to it the one that helps nobody."""
    if play.whole is None:
        return _END
    if play.whole.answers is None:
        play.whole.answers = _answers_without(plays.rows, play.place)
    return play.whole.answers.get(play.place, _END)


def _quick_reply(plays, cell):
    """The REPLY of a Quickfoe."""
    play = plays.waits.pop(cell, None)
    if play is not None and play.level > 0:
        plays.grow(play)
        return plays.seed
    if play is not None:
        return _last_reply(plays, play)
    if cell not in plays.inner:
        return _END
    play, place = plays.inner[cell]
    if place == ():
        return _last_reply(plays, play)
    return _END if play.answers is None else play.answers.get(place, _END)


class Quickfoe:
    """Tells its REPLIES at once: what comes first among the parts of a play is never enough."""

    def __init__(self, book, seed, house, level):
        self._plays = Plays(book, seed, house, level)

    def call(self, cell):
        """Calls a CELL; the REPLY."""
        cell = checked_call(self._plays.cells, cell)
        reply = _quick_reply(self._plays, cell)
        self._plays.take(cell, reply)
        return reply

    def waiting(self):
        """The set of the CELLS where plays wait."""
        return tuple(sorted(self._plays.waits))

    def house(self):
        """The HOUSE with the calls made."""
        return self._plays.cells.house()

    def log(self):
        """The LOG of the calls made."""
        return tuple(self._plays.calls)

    def __len__(self):
        """How many calls were made."""
        return len(self._plays.calls)

    def world(self):
        """The WORLD of the REPLIES of the HOUSE and of those made."""
        return _world_of(self._plays.all_replies({}))


def quick_costs(book, seed, level):
    """How many calls a play of a Quickfoe takes at least, and how many are enough; None if its ways are unlike."""
    costs = [(len(lot), len(run) - len(lot)) for lot, run in ways(book, seed)]
    if len(set(costs)) > 1:
        return None
    (many, others), most, least = costs[0], 1, 1
    for _ in range(level):
        most, least = 1 + (many + 1) * most + others, 1 + many * least + others
    return (most, least)


def _coin_replies(seed, answers, number):
    """The REPLIES of a coin world by CELL, with these answers by PLACE."""
    replies = {_ROOT: seed}
    for node, (place, part) in enumerate(spots(seed)):
        cell = _ROOT + (node,)
        for _ in range(number - 1 if part == OPEN else 0):
            replies[cell] = OPEN
            cell = cell + (0,)
        replies[cell] = answers.get(place, _END)
    return replies


def coin_worlds(book, seed, number):
    """For each OPEN PLACE of seed a WORLD in which what comes there, behind so many calls, is not enough."""
    rows, seed = ways(book, seed), tupled(seed)
    out = []
    for place in open_in(seed):
        out.append(_world_of(_coin_replies(seed, _answers_without(rows, place), number)))
    return tuple(out)
