"""A desk: it carries out the lines of a text, one after another, at a Board."""

from notinvain.board import Board
from notinvain.cells import cell_form, ready
from notinvain.errors import BadLine, CanNot, NoCell, NothingDone, TooMany
from notinvain.texts import cell_of, cell_word, form_word, is_cell_word, is_reply_word, reply_of, reply_word
from notinvain.trees import tupled

_ROOT = (0,)
# How many words a request has, by the first of them: behind that a cell, and a REPLY.
_REQUESTS = {"send": 2, "come": 3, "recall": 2, "undo": 1, "redo": 1, "sendsure": 1, "out": 1, "sure": 1, "open": 1,
             "idle": 1, "nothing": 1, "wanted": 1, "vain": 1, "log": 1, "shown": 1, "root": 1, "at": 2, "over": 1,
             "calls": 1, "left": 1}
_DEEDS = ("send", "come", "recall", "undo", "redo")


def is_request(thing):
    """Whether thing is a string that is a request."""
    if not isinstance(thing, str):
        return False
    words = thing.split(" ")
    if _REQUESTS.get(words[0]) != len(words):
        return False
    if len(words) > 1 and not is_cell_word(words[1]):
        return False
    return len(words) < 3 or is_reply_word(words[2])


def _do(board, words):
    """Does the deed of these words."""
    if words[0] == "undo":
        board.undo()
    elif words[0] == "redo":
        board.redo()
    elif words[0] == "send":
        board.send(cell_of(words[1]))
    elif words[0] == "come":
        board.come(cell_of(words[1]), reply_of(words[2]))
    else:
        board.recall(cell_of(words[1]))


def _cells_for(board, word):
    """The CELLS that are asked for by word; None if it does not ask for CELLS."""
    if word == "sendsure":
        return board.send_sure()
    if word == "out":
        return board.out()
    if word == "sure":
        return board.sure()
    if word == "open":
        return board.open_yet()
    if word == "idle":
        return board.idle()
    if word == "nothing":
        return board.for_nothing()
    if word == "wanted":
        return board.wanted()
    if word == "vain":
        return board.in_vain()
    return board.log() if word == "log" else None


def _told(board, book, words):
    """What is told for the request of these words."""
    word = words[0]
    if word in _DEEDS:
        _do(board, words)
        return "done"
    cells = _cells_for(board, word)
    if cells is not None:
        return " ".join([cell_word(cell) for cell in cells]) or "-"
    if word == "shown":
        return form_word(board.shown())
    if word == "over":
        return "yes" if board.is_over() else "no"
    if word == "calls":
        return " / ".join([cell_word(cell) + " " + reply_word(reply) for cell, reply in board.house()[1]]) or "-"
    if word == "left":
        return str(len(ready(book, board.house())))
    return form_word(cell_form(book, board.house(), _ROOT if word == "root" else cell_of(words[1])))


def _told_or_refused(board, book, words):
    """What is told for the request of these words, also where an error comes."""
    try:
        return _told(board, book, words)
    except NoCell:
        return "refused NoCell"
    except CanNot:
        return "refused CanNot"
    except NothingDone:
        return "refused NothingDone"
    except TooMany:
        return "refused TooMany"


def replies(book, house, text):
    """The list of what is told for the lines of text, at a Board of this HOUSE."""
    lines = text.split("\n") if text else []
    for number, line in enumerate(lines):
        if not is_request(line):
            raise BadLine(number)
    book, board = tupled(book), Board(book, house)
    return [_told_or_refused(board, book, line.split(" ")) for line in lines]
