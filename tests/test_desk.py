"""[23]: a desk."""

import random
import unittest

from notinvain.board import Board
from notinvain.cells import all_cells, cell_form, ready, with_call
from notinvain.desk import is_request, replies
from notinvain.errors import BadLine
from tests.houses import RIGHT, THREE, houses, names_for, random_reply
from tests.small import A, B, as_lists, mixed, more_things, odd_things
from tests.test_texts import plain_cell, plain_form, plain_reply, plain_word

FRESH = ((("f", 1, 2), (), ()), ())
ALONE = ("undo", "redo", "sendsure", "out", "sure", "open", "idle", "nothing", "wanted", "vain", "log", "shown", "root", "over", "calls", "left")
CELLS = {"sendsure": "send_sure", "out": "out", "sure": "sure", "open": "open_yet", "idle": "idle", "nothing": "for_nothing",
         "wanted": "wanted", "vain": "in_vain", "log": "log"}


def plain_request(line):
    """Whether line is a request, straight from the table."""
    words = line.split(" ")
    if len(words) == 1:
        return words[0] in ALONE
    if words[0] in ("send", "recall", "at"):
        return len(words) == 2 and plain_cell(words[1]) is not None
    return words[0] == "come" and len(words) == 3 and plain_cell(words[1]) is not None and plain_reply(words[2]) is not None


def plain_told(board, book, line):
    """What is told for a request, at a Board beside."""
    words = line.split(" ")
    cells = [plain_cell(word) for word in words[1:2]]
    try:
        if words[0] in CELLS:
            told = getattr(board, CELLS[words[0]])()
            return " ".join(".".join(str(own) for own in cell) for cell in told) or "-"
        if words[0] in ("send", "recall", "undo", "redo"):
            getattr(board, words[0])(*cells)
            return "done"
        if words[0] == "come":
            board.come(cells[0], plain_reply(words[2]))
            return "done"
        if words[0] == "over":
            return "yes" if board.is_over() else "no"
        if words[0] == "left":
            return str(len(ready(book, board.house())))
        if words[0] == "calls":
            return " / ".join(".".join(map(str, cell)) + " " + plain_word(reply) for cell, reply in board.house()[1]) or "-"
        if words[0] == "shown":
            return plain_word(board.shown())
        return plain_word(cell_form(book, board.house(), cells[0] if cells else (0,)))
    except (LookupError, ValueError) as error:
        assert type(error).__module__ == "notinvain.errors"
        return "refused " + type(error).__name__


def random_line(rnd, board, book, names):
    """A request, most of them for something that is there."""
    if rnd.random() < 0.45:
        return rnd.choice(ALONE)
    cells, outs = all_cells(book, board.house()), board.out()
    word = rnd.choice(("send", "send", "come", "come", "recall", "at"))
    cell = rnd.choice(outs if outs and word in ("come", "recall") and rnd.random() < 0.8 else cells + ((9, 9),))
    line = word + " " + ".".join(map(str, cell))
    return line + " " + plain_word(random_reply(rnd, names, 1)) if word == "come" else line


class Examples(unittest.TestCase):

    def test_replies(self):
        right, house = (("f", (), ("b",)),), ((("f", 1, 2), (), ()), ())
        self.assertEqual(replies(right, house, "sure\nopen\nsend 1\ncome 1 a\nsendsure\ncome 2 b\nroot\nnothing\nsend 0\ncome 0 g(0)\nroot\n"
                                 "over\nlog\nvain"),
                         ['2', '1', 'done', 'done', '2', 'done', 'f(a,b)', '-', 'done', 'done', 'g(a)', 'yes', '1 2 0', '-'])
        self.assertEqual(replies(right, house, "undo\nsend 7\ncome 2 b\nvain\nsend 2\nout\nundo\nout\nredo\ncome 2 h(_,b)\ncalls\nat 2\nat 2.1\n"
                                 "shown\nleft"),
                         ['refused NothingDone', 'refused NoCell', 'refused CanNot', 'refused CanNot', 'done', '2', 'done', '-', 'done',
                          'done', '2 h(_,b)', 'h(_,b)', '_', 'f(_,h(_,b))', '2'])

    def test_requests(self):
        self.assertEqual((is_request("come 1 g(0)"), is_request("come 1"), is_request("send 01"), is_request("sure "), is_request("at 0.2"),
                          is_request(None)), (True, False, False, False, True, False))
        with self.assertRaises(BadLine) as caught:
            replies(RIGHT, FRESH, "over\nsend  1")
        self.assertEqual(caught.exception.number, 1)


class Requests(unittest.TestCase):

    def test_each(self):
        for word in ALONE:
            self.assertIs(is_request(word), True)
            for line in (word + " ", " " + word, word + " 0", word + " a", word.upper(), word[:-1], word + "s" * 2, word + "\n", "\n" + word,
                         word + " " + word, word + " 0 a"):
                self.assertIs(is_request(line), False, line)
        for word in ("send", "recall", "at"):
            for cell in ("0", "1.2", "0.0.0.10", "9" * 1000):
                self.assertIs(is_request(word + " " + cell), True)
            for line in (word, word + " ", word + "  0", word + " 0 ", word + " 0 a", word + " 01", word + " .0", word + " a", word + " _",
                         word + " 0 0", word + " 0.", word + " -1", " " + word + " 0", word + " 0\n", word + "\n0", word + "\t0", word + "0"):
                self.assertIs(is_request(line), False, line)
        for line in ("come 0 a", "come 0 _", "come 0.1 17", "come 3 f(0,_,g(2))", "come 0 mark", "come 0 g(g(g(g(g(g(g(g(g(g(g(1)))))))))))"):
            self.assertIs(is_request(line), True, line)
        for line in ("come 0", "come 0 ", "come  0 a", "come 0  a", "come 0 a ", "come 0 f()", "come 0 A", "come a 0", "come 0 a b", "come _ a",
                     "come 0 01", "come 0 f(a, b)", "come 0 g(g(g(g(g(g(g(g(g(g(g(g(1))))))))))))", "come 0 f(a,b,c,d)"):
            self.assertIs(is_request(line), False, line)

    def test_things(self):
        for thing in odd_things() + more_things():
            self.assertIs(is_request(thing), False)
        for thing in ("", " ", "\n", "sure\nsure", ["sure"], ("sure",), ("send", "0"), ["send", "0"], None, "\u00b2",
                      "send \u00b2", "send \u0661", "come 0 \u00e9", "come 0 \u00b2", "send 0\r", "sure\x00", "at 1\u00a0", "send \ud800"):
            self.assertIs(is_request(thing), False, repr(thing))

    def test_figures(self):
        """A thing may have any size: more figures than Python reads as one number, too."""
        for many in (1000, 4300, 4301, 100000):
            self.assertIs(is_request("send " + "1" * many), True)
            self.assertIs(is_request("at 0." + "7" * many + ".0"), True)
            self.assertIs(is_request("come 0 f(" + "1" * many + ",_)"), True)
            self.assertIs(is_request("come " + "1" * many + " 0" + "1" * many), False)
            self.assertIs(is_request("send 0" + "1" * many), False)
        self.assertIs(is_request("come 0 " + "f(" * 100000), False)
        self.assertIs(is_request("send " + "1." * 100000 + "0"), True)

    def test_many(self):
        rnd, told = random.Random(1), [0, 0]
        for _ in range(4000):
            words = [rnd.choice(ALONE + ("send", "come", "recall", "at") * 3)]
            words += [rnd.choice(("0", "1.2", "01", "a", "f(0)", "_", "f(a,1)", "", "g(")) for _ in range(rnd.choice((0, 0, 1, 2, 2, 3)))]
            line = " ".join(words)
            told[plain_request(line)] += 1
            self.assertIs(is_request(line), plain_request(line), line)
        self.assertGreater(min(told), 300)


class Desk(unittest.TestCase):

    def test_beside_a_board(self):
        rnd, told = random.Random(2), {}
        for book, house, _ in houses(3, 250, 5, 3):
            board, lines, own, names = Board(book, house), [], [], names_for(book)
            for _ in range(25):
                line = random_line(rnd, board, book, names)
                self.assertTrue(plain_request(line), line)
                lines.append(line)
                own.append(plain_told(board, book, line))
                told[own[-1]] = told.get(own[-1], 0) + 1
            text = "\n".join(lines)
            self.assertEqual(replies(book, house, text), own)
            self.assertEqual(replies(as_lists(book), mixed(house), text), own)
            self.assertEqual(replies(text=text, house=house, book=book), own)
        for word in ("done", "-", "yes", "no", "_", "0", "refused NoCell", "refused CanNot", "refused NothingDone"):
            self.assertGreater(told[word], 10, word)

    def test_lines(self):
        self.assertEqual(replies(RIGHT, FRESH, ""), [])
        self.assertEqual(replies(RIGHT, FRESH, "over"), ["no"])
        for text, number in (("over\n", 1), ("\n", 0), ("\nover", 0), ("over\n\nover", 1), ("over\nover ", 1), ("send 9\nsend a", 1), (" ", 0),
                             ("over\n" * 500 + "Over", 500), ("come 0", 0)):
            with self.assertRaises(BadLine) as caught:
                replies(RIGHT, FRESH, text)
            self.assertEqual(caught.exception.number, number)

    def test_refused_lines_change_nothing(self):
        text = "send 1\nsend 1\ncome 2 a\nrecall 2\nout\nwanted\nvain\nredo\nundo\nout\nsend 0\nundo\nredo\nout"
        self.assertEqual(replies(RIGHT, FRESH, text),
                         ["done", "refused CanNot", "refused CanNot", "refused CanNot", "1", "refused CanNot", "refused CanNot",
                          "refused NothingDone", "done", "-", "refused CanNot", "refused NothingDone", "done", "1"])

    def test_ended(self):
        house = ((("f", 1, 2), A, ("c",)), ())
        self.assertEqual(replies(RIGHT, house, "over\nwanted\nvain\nlog\ncalls\nleft\nsure\nopen\nidle\nnothing\nout\nsendsure\nroot\nshown"),
                         ["yes"] + ["-"] * 4 + ["0"] + ["-"] * 6 + ["f(a,c)"] * 2)

    def test_several_parts(self):
        text = "send 1\nsend 2\nout\ncome 1 h(_,a)\ncome 2 12\ncalls\nlog\nat 1.1\nat 2\nroot\nnothing\nidle\nat 0"
        self.assertEqual(replies(THREE, ((("k", 1, 2), (), ()), ()), text),
                         ["done", "done", "1 2", "done", "done", "1 h(_,a) / 2 12", "1 2", "_", "end", "k(h(_,a),end)", "-", "-", "k(h(_,a),end)"])

    def test_too_many(self):
        plan = (("k", 1, 9), ("k", 2, 2)) + tuple(("k", number + 1, number + 1) for number in range(2, 8)) + ((), ())
        house, at = (plan, ()), (9,)
        for _ in range(44):
            house = with_call(RIGHT, house, at, ("g", ()))
            at = at + (1,)
        word = ".".join(map(str, at))
        text = "sure\nopen\nsendsure\nshown\nroot\nat 0\nat 8\nidle\nnothing\nout\nover\nleft\nsend " + word + "\nout"
        self.assertEqual(replies(RIGHT, house, text),
                         ["refused TooMany"] * 6 + ["_", "-", "-", "-", "no", "2", "done", word])

    def test_long_texts(self):
        lines, at = [], (0,)
        for _ in range(60):
            word = ".".join(map(str, at))
            lines += ["send " + word, "come " + word + " g(_)", "sure", "left", "root"]
            at = at + (1,)
        lines += ["undo"] * 60 + ["redo"] * 60 + ["nothing", "calls", "over"]
        told = replies(RIGHT, (((),), ()), "\n".join(lines))
        self.assertEqual((len(told), told[-2].count(" / "), told[-1]), (423, 59, "no"))
        self.assertEqual(told[:5], ["done", "done", "0.1", "1", "g(_)"])

    def test_many_figures(self):
        figures = "9" * 1000
        self.assertEqual(replies(RIGHT, FRESH, "at 0." + figures + "\nsend 1\ncome 1 " + figures + "\ncalls\nat 1"),
                         ["refused NoCell", "done", "done", "1 " + figures, "end"])

    def test_new_lists(self):
        told = replies(RIGHT, FRESH, "sure\nover")
        told.append("x")
        self.assertEqual(replies(RIGHT, FRESH, "sure\nover"), ["2", "no"])
        self.assertIsInstance(replies(RIGHT, FRESH, ""), list)

    def test_words_are_read_alike(self):
        self.assertEqual(plain_form("f(_,a)"), ("f", (), A))
        self.assertEqual(replies(RIGHT, ((("k", 1, 1), ()), ()), "send 1\ncome 1 f(a,b)\nroot\nleft\nsure\nsend 1.0\ncome 1.0 0\nroot\nover"),
                         ["done", "done", "k(f(a,b),f(a,b))", "1", "1.0", "done", "done", "k(a,a)", "yes"])
        self.assertEqual(B, ("b",))


if __name__ == "__main__":
    unittest.main()
