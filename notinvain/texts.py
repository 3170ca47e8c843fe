"""Words and texts for FORMS, SIDES, PLANS, HOUSES, WORLDS and LOGS, and what reads them."""

from notinvain.books import is_side
from notinvain.errors import BadLine, Unfit
from notinvain.forms import is_form
from notinvain.trees import OPEN, is_name, is_number, spots, tupled

_MOST_PLACES = 40
_MOST_NUMBERS = 10
_MOST_NODES = 12


def _word_of(whole):
    """The word of a FORM or a REPLY."""
    waiting, out = [whole], []
    while waiting:
        part = waiting.pop()
        if isinstance(part, str):
            out.append(part)
        elif is_number(part) or part == OPEN:
            out.append("_" if part == OPEN else str(part))
        else:
            waiting.append(")" if part[1:] else "")
            for number, own in reversed(list(enumerate(part[1:]))):
                waiting.extend([own, "," if number else "("])
            waiting.append(part[0])
    return "".join(out)


def form_word(form):
    """The word of form."""
    return _word_of(tupled(form))


def reply_word(reply):
    """The word of reply."""
    return _word_of(tupled(reply))


def cell_word(cell):
    """The word of the cell name cell."""
    return ".".join([str(number) for number in tupled(cell)])


def _text_of(rows):
    """The text of these lines, each a list of words."""
    return "".join([" ".join(words) + "\n" for words in rows])


def form_text(form):
    """The text of form."""
    return _text_of([["form", form_word(form)]])


def sides_text(sides):
    """The text of SIDES."""
    return _text_of([["side", form_word(side)] for side in tupled(sides)])


def plan_text(plan):
    """The text of plan."""
    return _text_of([["cell"] + [str(part) for part in own or ("_",)] for own in tupled(plan)])


def _pairs_text(word, pairs):
    """The text of pairs of a cell name and a REPLY, each behind this word."""
    return _text_of([[word, cell_word(cell), reply_word(reply)] for cell, reply in pairs])


def house_text(house):
    """The text of house."""
    plan, calls = tupled(house)
    return plan_text(plan) + _pairs_text("call", calls)


def world_text(world):
    """The text of world."""
    return _pairs_text("reply", tupled(world))


def log_text(log):
    """The text of log."""
    return _text_of([["called", cell_word(cell)] for cell in tupled(log)])


def _is_figures(word):
    """Whether word is a number from 0 in figures, without a needless 0."""
    if not word or not all(["0" <= sign <= "9" for sign in word]):
        return False
    return word == "0" or word[0] != "0"


def _signs_of(word):
    """The NAMES, numbers and other signs of word, in their order."""
    out, letters = [], ""
    for sign in word:
        if sign in "_(),":
            out.extend([letters, sign])
            letters = ""
        else:
            letters += sign
    return [sign for sign in out + [letters] if sign]


def _read_tree(word, most):
    """The FORM or REPLY of at most so many nodes with this word, its numbers in figures yet; None if there is none."""
    signs = _signs_of(word)
    if len([sign for sign in signs if sign not in ("(", ")", ",")]) > most:
        return None
    # The last row is the one that is not closed yet: a NAME, and the parts so far.
    rows, ahead = [[]], ","
    for sign in signs:
        wanting = ahead in ("(", ",")
        if wanting and sign == "_":
            rows[-1].append(OPEN)
        elif wanting and (is_name(sign) or _is_figures(sign)):
            rows[-1].append((sign,) if is_name(sign) else sign)
        elif sign == "(" and is_name(ahead):
            own = rows[-1].pop()
            rows.append(list(own))
        elif not wanting and sign == ")" and len(rows) > 1:
            own = tuple(rows.pop())
            rows[-1].append(own)
        elif wanting or sign != "," or not 1 < len(rows[-1]) < 4:
            # The outermost row has one item only.
            return None
        ahead = sign
    return rows[0][0] if len(rows) == 1 and ahead not in ("(", ",") else None


def form_of(word):
    """The FORM with this word; None if there is none."""
    form = _read_tree(word, _MOST_PLACES)
    if not is_form(form) or max([len(place) for place, part in spots(form)]) > _MOST_NUMBERS:
        return None
    return form


def _numbered(tree):
    """tree with numbers in the place of their figures."""
    if isinstance(tree, str):
        return int(tree)
    return tree[:1] + tuple([_numbered(part) for part in tree[1:]])


def is_reply_word(word):
    """Whether word is that of a REPLY."""
    return _read_tree(word, _MOST_NODES) is not None


def reply_of(word):
    """The REPLY with this word; None if there is none."""
    tree = _read_tree(word, _MOST_NODES)
    return None if tree is None else _numbered(tree)


def is_cell_word(word):
    """Whether word is that of a tuple of one or more numbers."""
    return all([_is_figures(part) for part in word.split(".")])


def cell_of(word):
    """The tuple of one or more numbers with this word; None if there is none."""
    return tuple([int(part) for part in word.split(".")]) if is_cell_word(word) else None


def _lines_of(text):
    """The lines of text, each as the list of its words."""
    lines = text.split("\n")
    # A line break at the end begins no further line.
    if lines[-1] == "":
        del lines[-1]
    return [line.split(" ") for line in lines]


def _form_in(word, words):
    """The FORM of a line of this word and a FORM; None if it is none."""
    return form_of(words[1]) if len(words) == 2 and words[0] == word else None


def read_form(text):
    """The FORM with this text."""
    rows = _lines_of(text)
    form = _form_in("form", rows[0]) if rows else None
    if form is None:
        raise BadLine(0)
    if len(rows) > 1:
        raise BadLine(1)
    return form


def read_sides(text):
    """The SIDES with this text."""
    out = []
    for number, words in enumerate(_lines_of(text)):
        side = _form_in("side", words)
        if not is_side(side) or out and out[-1] >= side:
            raise BadLine(number)
        out.append(side)
    return tuple(out)


def _plan_cell(words, number):
    """The cell of this number in a line of a PLAN; None if it is none."""
    if words == ["cell", "_"]:
        return OPEN
    if words[0] != "cell" or not 2 <= len(words) <= 5 or not is_name(words[1]):
        return None
    if not all([_is_figures(word) for word in words[2:]]):
        return None
    numbers = [int(word) for word in words[2:]]
    return (words[1],) + tuple(numbers) if all([own > number for own in numbers]) else None


def _pair_in(word, words, ahead):
    """The pair of a line of this word, a cell name and a REPLY, behind the list of pairs ahead; None if it is none."""
    if len(words) != 3 or words[0] != word:
        return None
    cell, reply = cell_of(words[1]), reply_of(words[2])
    if cell is None or reply is None or ahead and ahead[-1][0] >= cell:
        return None
    return (cell, reply)


def read_house(text):
    """The pair of a PLAN and a set of pairs with this text, whether these can be made or not."""
    plan, calls = [], []
    for number, words in enumerate(_lines_of(text)):
        cell = None if calls else _plan_cell(words, number)
        pair = _pair_in("call", words, calls) if plan else None
        if cell is None and pair is None:
            raise BadLine(number)
        if pair is None:
            plan.append(cell)
        else:
            calls.append(pair)
    if not plan:
        raise BadLine(0)
    if any([own >= len(plan) for cell in plan for own in cell[1:]]):
        raise Unfit()
    return (tuple(plan), tuple(calls))


def read_plan(text):
    """The PLAN with this text."""
    for number, words in enumerate(_lines_of(text)):
        if _plan_cell(words, number) is None:
            raise BadLine(number)
    return read_house(text)[0]


def read_world(text):
    """The WORLD with this text."""
    out = []
    for number, words in enumerate(_lines_of(text)):
        pair = _pair_in("reply", words, out)
        if pair is None:
            raise BadLine(number)
        out.append(pair)
    return tuple(out)


def read_log(text):
    """The LOG with this text."""
    seen = {}
    for number, words in enumerate(_lines_of(text)):
        cell = cell_of(words[1]) if len(words) == 2 and words[0] == "called" else None
        if cell is None or cell in seen:
            raise BadLine(number)
        seen[cell] = True
    return tuple(list(seen))
