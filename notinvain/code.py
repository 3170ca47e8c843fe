"""CODE for a machine that works a FORM out: made of TREES, run, and made as short as can be."""

from notinvain.books import first_signs, is_side
from notinvain.errors import CanNot, NoNumber, TooMany
from notinvain.forms import is_sign
from notinvain.looks import has_trees, tree_of, tree_over
from notinvain.trees import OPEN, ascending, is_number, is_numbers, open_form, own_sign, part_at, put_all, tupled

# How many members a row has, by its word, and where its numbers of rows begin: they are the last ones.
_SHAPES = {"open": (2, 1), "test": (5, 3), "enter": (4, 2), "call": (2, 1), "parts": (3, 1), "leave": (1, 1)}
_START = (("enter", (), 3, 1), ("parts", 0, 2), ("leave",), ("open", 4))
# The row from which on a FORM is worked out.
_WORK = 3
_MOST_ROWS = 2000


def _is_row(thing, count):
    """Whether thing is a row of a CODE of so many."""
    if not isinstance(thing, tuple) or not thing or not isinstance(thing[0], str) or thing[0] not in _SHAPES:
        return False
    many, first = _SHAPES[thing[0]]
    if len(thing) != many or not all([is_number(own) and 0 <= own < count for own in thing[first:]]):
        return False
    if first > 1 and not (is_numbers(thing[1]) and all([0 <= own <= 2 for own in thing[1]])):
        return False
    return first < 3 or is_sign(thing[2])


def is_code(thing):
    """Whether thing is a CODE."""
    return isinstance(thing, tuple) and bool(thing) and all([_is_row(row, len(thing)) for row in thing])


def _add_tests(rows, place, branches):
    """Adds to the list rows those that ask for the SIGNS of branches at place, and "leave".

    Pairs of the number of a test and the TREE of its branch, the last one first; the row with which this
    TREE begins is not told in the test yet.
    """
    waiting = []
    for sign, tree in branches:
        waiting.append((len(rows), tree))
        rows.append(("test", place, sign, 0, len(rows) + 1))
    rows.append(("leave",))
    return waiting[::-1]


def code_of(trees):
    """The CODE of these pairs of a SIGN and a TREE of it."""
    rows = list(_START)
    waiting = _add_tests(rows, (), tupled(trees))
    while waiting:
        number, tree = waiting.pop()
        rows[number] = rows[number][:3] + (len(rows), number + 1)
        if tree[0] == "found":
            rows.append(("call", _WORK))
            continue
        _, place, branches = tree
        rows.append(("enter", place, _WORK, len(rows) + 1))
        waiting.extend(_add_tests(rows, place, branches))
    return tuple(rows)


def book_code(book):
    """The CODE of the TREES of book that tree_of tells."""
    if not has_trees(book):
        raise CanNot()
    return code_of([(sign, tree_of(book, sign)) for sign in first_signs(book)])


class Reader:
    """Reads TREES off the rows of code, in their order; at is None as soon as there are none.

    Of the numbers in the rows nothing is asked: whether they fit is told by the CODE that comes of the TREES.
    """

    def __init__(self, code):
        self.code, self.at = code, len(_START)

    def row(self):
        """The row that is next."""
        return self.code[self.at] if self.at is not None and self.at < len(self.code) else ("none",)

    def look(self, place):
        """The node of a look at place: its SIGNS are those of the tests that are next, with "leave" behind them."""
        signs = []
        while self.row()[:2] == ("test", place):
            signs.append(self.row()[2])
            self.at += 1
        self.at = self.at + 1 if self.row() == ("leave",) else None
        return ("look", place, signs)

    def node(self, seen):
        """The node that is next, for what is seen."""
        row = self.row()
        if row == ("call", _WORK):
            self.at += 1
            return ("found", tupled(seen))
        # A look is at an OPEN PLACE of what is seen.
        if row[0] != "enter" or part_at(seen, row[1]) != []:
            self.at = None
            return row
        self.at += 1
        return self.look(row[1])

    def nodes(self):
        """The nodes, as of one TREE that looks at () first: its branches are the TREES of the first SIGNS."""
        # What is seen has lists for FORMS, [] for OPEN, so that it can be changed where a look is.
        seen, way, nodes = [], [], [self.look(())]
        waiting = [(seen, sign, 0) for sign in nodes[0][2][::-1]]
        while waiting and self.at is not None:
            part, sign, above = waiting.pop()
            # What was seen in the branch ahead, behind as many looks as are above, is seen no more.
            while len(way) > above:
                way.pop().clear()
            way.append(part)
            part.extend([sign[0]] + [[] for _ in range(sign[1])])
            node = self.node(seen)
            nodes.append(node)
            if node[0] == "look":
                below = part_at(seen, node[1])
                waiting.extend([(below, own, len(way)) for own in node[2][::-1]])
        return nodes


def _are_trees(nodes):
    """Whether the branches of the first of nodes, which is a look at (), are TREES for one plain BOOK.

    The SIDES found are those of the BOOK, each one what is seen there. So those that agree with what is
    seen at a look are the ones found behind it, and no two of them agree: the rest hangs on the SIGNS.
    """
    looks = [node for node in nodes if node[0] == "look"]
    firsts = {sign: True for sign in looks[0][2]}
    for number, (_, _, signs) in enumerate(looks):
        if tuple(signs) != ascending(signs) or not all([is_side(open_form(sign)) for sign in signs]):
            return False
        if number > 0 and (not signs or any([sign in firsts for sign in signs])):
            return False
    return True


def trees_in(code):
    """The trees of which code is code_of; None if there are none."""
    code = tupled(code)
    reader = Reader(code)
    nodes = reader.nodes()
    if reader.at != len(code) or not _are_trees(nodes):
        return None
    _, _, trees = tree_over(nodes)
    return trees if code_of(trees) == code else None


def first_state(form):
    """The STATE in which form begins."""
    return (tupled(form), 0, (), ())


def _checked_place(form, place):
    """place, which ought to be a PLACE of form."""
    if part_at(form, place) is None:
        raise CanNot()
    return place


def _behind(code, form, row, here, stack):
    """The row that comes behind row, and the PLACE; stack, a list, is changed."""
    own = code[row]
    if own[0] == "test":
        part = part_at(form, here + own[1])
        return (own[3] if part is not None and own_sign(part) == own[2] else own[4], here)
    if own[0] == "enter":
        place = _checked_place(form, here + own[1])
        stack.append((own[3], here))
        return (own[2], place)
    if own[0] == "parts":
        many = len(part_at(form, here)) - 1
        stack.extend([(own[1], here + (number,)) for number in reversed(range(many))])
        return (own[2], here)
    if own[0] == "leave":
        row, place = stack.pop()
        return (row, _checked_place(form, place))
    return (own[1], here)


def ran(code, state):
    """The STATE in which the next CALL goes out, or the machine is done, and the PLACE of the CALL, or None."""
    code, (form, row, here, stack) = tupled(code), tupled(state)
    if not 0 <= row < len(code):
        raise NoNumber(row)
    stack = list(stack)
    for _ in range(_MOST_ROWS + 1):
        own = code[row]
        if own[0] == "leave" and not stack:
            return ((form, row, here, ()), None)
        if own[0] == "call" or own[0] == "open" and part_at(form, here) == OPEN:
            # Behind the CALL of "open" the same row comes again.
            return ((form, own[1] if own[0] == "call" else row, here, tuple(stack)), here)
        row, here = _behind(code, form, row, here, stack)
    raise TooMany()


def replied(state, answer):
    """state with answer put where the machine is."""
    form, row, here, stack = tupled(state)
    return (put_all(form, {here: tupled(answer)}), row, here, stack)


def run_code(code, form, answers):
    """The FORM left, the PLACES whose CALLS were answered, and that of the CALL that waits, or None."""
    answers, places = tupled(answers), []
    state, place = ran(code, first_state(form))
    while place is not None and len(places) < len(answers):
        state = replied(state, answers[len(places)])
        places.append(place)
        state, place = ran(code, state)
    return (state[0], tuple(places), place)


def _numbers_of(row):
    """The numbers of rows that row tells."""
    return row[_SHAPES[row[0]][1]:]


def _rest_of(row):
    """row but for the numbers of rows in it."""
    return row[:_SHAPES[row[0]][1]]


class Classes:
    """Classes of the rows of code, told by numbers: in one class are those that are alike."""

    def __init__(self, code):
        self.class_of, self.members, self.tellers = {}, [], {}
        numbers = {}
        for number, row in enumerate(code):
            own = numbers.setdefault(_rest_of(row), len(numbers))
            if own == len(self.members):
                self.members.append([])
            self.class_of[number] = own
            self.members[own].append(number)
            for at, told in enumerate(_numbers_of(row)):
                self.tellers.setdefault((at, told), []).append(number)
        # The classes by which all others are yet to be parted.
        self.untried = {own: True for own in range(len(self.members))}
        while self.untried:
            self._try(max(list(self.untried)))

    def _try(self, number):
        """Parts all classes by what of them tells rows of the class of this number."""
        del self.untried[number]
        rows = list(self.members[number])
        for at in (0, 1):
            met = {}
            for teller in [own for row in rows for own in self.tellers.get((at, row), [])]:
                met.setdefault(self.class_of[teller], []).append(teller)
            for own in met:
                if len(met[own]) < len(self.members[own]):
                    self._part(own, {teller: True for teller in met[own]})

    def _part(self, own, apart):
        """Takes the rows of the dict apart out of the class own, into a new one."""
        new, left = len(self.members), [row for row in self.members[own] if row not in apart]
        self.members.append(list(apart))
        self.members[own] = left
        for row in apart:
            self.class_of[row] = new
        # By a class that was tried was parted: then the smaller one of its two parts will do.
        smaller = new if len(apart) <= len(left) else own
        self.untried[new if own in self.untried else smaller] = True


def least_code(code):
    """The CODE of the rows that are reached from row 0, one for all that are alike, as they are first met."""
    code = tupled(code)
    class_of = Classes(code).class_of
    number_of, order, waiting = {}, [], [0]
    while waiting:
        row = waiting.pop()
        if class_of[row] not in number_of:
            number_of[class_of[row]] = len(order)
            order.append(code[row])
            waiting.extend(_numbers_of(code[row])[::-1])
    return tuple([_rest_of(row) + tuple([number_of[class_of[own]] for own in _numbers_of(row)]) for row in order])


def do_alike(code, other):
    """Whether the rows 0 of both are alike."""
    return least_code(code) == least_code(other)
