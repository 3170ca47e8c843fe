"""[22]: words and texts, and what reads them."""

import itertools
import random
import re
import unittest

from notinvain.errors import BadLine, Unfit
from notinvain.texts import cell_of, cell_word, form_of, form_text, form_word, house_text, log_text, plan_text, read_form
from notinvain.texts import read_house, read_log, read_plan, read_sides, read_world, reply_of, reply_word, sides_text
from notinvain.texts import world_text
from tests.houses import BOOKS, houses, random_world
from tests.small import A, B, END, MARK, as_lists, forms_of, mixed, plain_spots, tower

SIGNS = (("a", 0), ("b", 0), ("mark", 0), ("f", 2), ("g", 1), ("h", 3))
FIGURES = "0|[1-9][0-9]*"
NAME = "[a-z]{1,8}"


def plain_word(whole):
    """The word of a FORM or a REPLY."""
    if whole == () or isinstance(whole, int):
        return "_" if whole == () else str(whole)
    return whole[0] + ("(" + ",".join(plain_word(part) for part in whole[1:]) + ")" if whole[1:] else "")


def plain_nodes(reply):
    return 1 if isinstance(reply, int) else 1 + sum(plain_nodes(part) for part in reply[1:])


def plain_tree(word, numbers):
    """The FORM or REPLY with this word, by taking words of parts together; None if there is none."""
    table, left = {}, word
    while True:
        hit = re.search(r"(?<![a-z0-9_{}])(_|%s|(%s)(\(\{\d+\}(,\{\d+\}){0,2}\))?)(?![a-z0-9_({}])" % (FIGURES, NAME), left)
        if hit is None:
            break
        parts = [table[int(own)] for own in re.findall(r"\{(\d+)\}", hit.group(0))]
        own = () if hit.group(0) == "_" else (hit.group(2),) + tuple(parts) if hit.group(2) else int(hit.group(0))
        table[len(table)] = own
        left = left[:hit.start()] + "{%d}" % (len(table) - 1) + left[hit.end():]
    if not re.fullmatch(r"\{\d+\}", left) or not numbers and re.search("[0-9]", word):
        return None
    return table[int(left[1:-1])]


def plain_form(word):
    form = plain_tree(word, False)
    if form is None or len(plain_spots(form)) > 40 or max(len(place) for place in plain_spots(form)) > 10:
        return None
    return form


def plain_reply(word):
    reply = plain_tree(word, True)
    return None if reply is None or plain_nodes(reply) > 12 else reply


def plain_cell(word):
    return tuple(int(own) for own in word.split(".")) if re.fullmatch(r"(%s)(\.(%s))*" % (FIGURES, FIGURES), word) else None


def replies_of(rnd, depth):
    """A REPLY."""
    turn = rnd.random()
    if turn < 0.4 or depth == 0:
        return rnd.choice(((), 0, 1, 12, 100, A, MARK, ("abcdefgh",)))
    return (rnd.choice("fgh"),) + tuple(replies_of(rnd, depth - 1) for _ in range(rnd.randint(1, 3)))


class Examples(unittest.TestCase):

    def test_words(self):
        self.assertEqual(form_text(("f", (), ("g", ("a",), ()))), 'form f(_,g(a,_))\n')
        self.assertEqual((form_of("f(_,g(a,_))"), form_of("f()"), form_of("_"), reply_of("f(2,_)"), cell_of("0.2"), cell_of("")),
                         (('f', (), ('g', ('a',), ())), None, (), ('f', 2, ()), (0, 2), None))

    def test_texts(self):
        self.assertEqual((sides_text((("f", (), ("b",)), ("g", ()))), read_sides("")), ('side f(_,b)\nside g(_)\n', ()))
        house = (("f", 1, 1), ()), (((1,), ("g", ())), ((1, 1), ("b",)))
        self.assertEqual((house_text(house), read_house(house_text(house)) == house),
                         ('cell f 1 1\ncell _\ncall 1 g(_)\ncall 1.1 b\n', True))
        self.assertEqual((world_text((((0,), 3),)), read_log("called 1\ncalled 1.0\ncalled 0")), ('reply 0 3\n', ((1,), (1, 0), (0,))))

    def test_errors(self):
        self.check(read_sides, "side g(_)\nside f(_)", 1)
        self.assertRaises(Unfit, read_plan, "cell f 1")
        self.check(read_house, "cell _\ncall 0 a\ncell _", 2)

    def check(self, reader, text, number):
        with self.assertRaises(BadLine) as caught:
            reader(text)
        self.assertEqual(caught.exception.number, number)


class Words(unittest.TestCase):

    def test_forms(self):
        for form in forms_of(SIGNS, 4):
            word = plain_word(form)
            self.assertEqual((form_word(form), form_of(word), reply_of(word), reply_word(form)), (word, form, form, word))
            self.assertEqual((form_word(as_lists(form)), reply_word(mixed(form))), (word, word))
            self.assertEqual(form_word(form=form), form_word(form))

    def test_replies(self):
        rnd = random.Random(1)
        for _ in range(800):
            reply = replies_of(rnd, 2)
            word = plain_word(reply)
            self.assertEqual(reply_word(reply), word)
            self.assertEqual(reply_word(as_lists(reply)), word)
            self.assertEqual(reply_of(word), reply if plain_nodes(reply) <= 12 else None)
        self.assertEqual((reply_word(0), reply_word(10 ** 6), reply_of("0"), reply_of("1000000")), ("0", "1000000", 0, 10 ** 6))

    def test_all_short_words(self):
        """Each word of so few signs is read as what has it, or not at all."""
        for signs, most in (("f_(),1", 6), ("fg(),", 7), ("01.", 6), ("f0_( ", 5)):
            for many in range(most + 1):
                for own in itertools.product(signs, repeat=many):
                    word = "".join(own)
                    self.assertEqual(form_of(word), plain_form(word), word)
                    self.assertEqual(reply_of(word), plain_reply(word), word)
                    self.assertEqual(cell_of(word), plain_cell(word), word)

    def test_one_sign_more_or_less(self):
        rnd = random.Random(2)
        for _ in range(400):
            word = list(plain_word(replies_of(rnd, 2)))
            at = rnd.randrange(len(word))
            if rnd.random() < 0.5:
                word.insert(at, rnd.choice("fg_(),01. \n"))
            elif rnd.random() < 0.5:
                del word[at]
            else:
                word[at] = rnd.choice("fA_(),02. \n{}")
            word = "".join(word)
            self.assertEqual(form_of(word), plain_form(word), word)
            self.assertEqual(reply_of(word), plain_reply(word), word)
            for own in (form_of(word), reply_of(word)):
                self.assertTrue(own is None or plain_word(own) == word)

    def test_no_words(self):
        for word in ("", " ", "\n", "f ", " f", "f\n", "f(a, b)", "f(a,b,c,d)", "f(,)", "f(a,)", "f(a", "f)", "f(a))", "(a)", "f(a)(b)", "_(a)",
                     "__", "_a", "a_", "F", "f1", "1f", "abcdefghi", "f(abcdefghi)", "-1", "+1", "1.0", "f(01)", "00", "a,b", "f((a))",
                     "f(a)b", "f(_a)", "f()", "f(_)_", "~", "f[a]", "_()"):
            self.assertEqual((form_of(word), reply_of(word)), (None, None), word)
        self.assertEqual((form_of("0"), form_of("f(0)"), reply_of("f(0)")), (None, None, ("f", 0)))
        for word in ("", ".", "0.", ".0", "00", "0.01", "01", "a", "-1", "0 1", "0,1", "0.1\n", " 0", "0..1", "_", "1.0.", "0.0x1", "1e3", "1_0"):
            self.assertIsNone(cell_of(word), word)

    def test_bounds_of_forms(self):
        deep = tower(11)
        self.assertEqual(max(len(place) for place in plain_spots(deep)), 10)
        self.assertEqual(form_of(plain_word(deep)), deep)
        self.assertIsNone(form_of(plain_word(tower(12))))
        self.assertIsNone(form_of(plain_word(("f", tower(11), A))))
        nine, three = ("f", A, B, ()), ("f", A, ())
        wide = ("f", ("f", nine, nine, nine), ("f", nine, nine, nine), ("f", nine, nine, three))
        self.assertEqual(len(plain_spots(wide)), 39)
        self.assertEqual(form_of(plain_word(wide)), wide)
        forty = ("f", ("f", nine, nine, nine), ("f", nine, nine, nine), ("f", nine, nine, nine))
        self.assertEqual((len(plain_spots(forty)), form_of(plain_word(forty))), (40, forty))
        more = ("f", ("f", nine, nine, nine), ("f", nine, nine, nine), ("f", nine, nine, ("f", A, B, ("g", ()))))
        self.assertEqual((len(plain_spots(more)), form_of(plain_word(more)), form_word(more)), (41, None, plain_word(more)))

    def test_bounds_of_replies(self):
        for many, deep in ((11, 12), (12, 13)):
            reply = 5
            for _ in range(many):
                reply = ("g", reply)
            self.assertEqual(plain_nodes(reply), deep)
            self.assertEqual(reply_of(plain_word(reply)), reply if deep == 12 else None)
            self.assertEqual(reply_word(reply), plain_word(reply))
        row = ("f", ("f", 1, 2, 3), ("f", (), (), 7), ("f", 0, A))
        self.assertEqual((plain_nodes(row), reply_of(plain_word(row))), (12, row))
        more = ("f", ("f", 1, 2, 3), ("f", (), (), 7), ("f", 0, A, 0))
        self.assertEqual((plain_nodes(more), reply_of(plain_word(more)), form_of(plain_word(more))), (13, None, None))

    def test_long_words(self):
        for word in ("f(" * 100000, "f(" * 50000 + "_" + ")" * 50000, "a," * 50000, "(" * 100000, ")" * 1000, "a" * 100000, "_" * 100000,
                     "f(" + "a," * 50000 + "a)", "," * 9999, "f" + "()" * 9999):
            self.assertEqual((form_of(word), reply_of(word), cell_of(word)), (None, None, None))
        deep = tower(900)
        self.assertEqual((form_word(deep), reply_word(deep)), ("g(" * 899 + "_" + ")" * 899,) * 2)

    def test_many_figures(self):
        for figures in ("9" * 1000, "1" + "0" * 999, "123456789" * 100):
            number = int(figures)
            self.assertEqual((reply_of(figures), reply_of("f(_," + figures + ")"), cell_of("0." + figures)), (number, ("f", (), number), (0, number)))
            self.assertEqual((reply_word(number), cell_word((number, 0)), reply_word(("g", number))), (figures, figures + ".0", "g(" + figures + ")"))
            self.assertIsNone(reply_of("0" + figures[1:]))
            self.assertIsNone(cell_of("0" + figures[1:] + ".1"))
            self.assertEqual(read_world("reply 0." + figures + " " + figures), (((0, number), number),))
            self.assertEqual(read_log("called " + figures), ((number,),))
            self.assertRaises(Unfit, read_plan, "cell f " + figures)

    def test_cells(self):
        for cell in [(0,), (1, 0), (10, 200, 0), (10 ** 6,), (0,) * 200]:
            word = ".".join(str(own) for own in cell)
            self.assertEqual((cell_word(cell), cell_word(list(cell)), cell_of(word)), (word, word, cell))


def line_rows(text):
    """The lines of a text."""
    return text[:-1].split("\n") if text.endswith("\n") else text.split("\n") if text else []


class BadLines(Exception):
    """A line that cannot stand there."""


def plain_read(kind, text):
    """What a reader tells: ("read", what), ("bad", number) or ("unfit",), straight from the words."""
    try:
        return ("read", plain_readers(kind, line_rows(text)))
    except BadLines as error:
        return ("bad", error.args[0])
    except ZeroDivisionError:
        return ("unfit",)


def need(truth, number):
    if not truth:
        raise BadLines(number)


def plain_readers(kind, lines):
    rows, calls = [], []
    for number, line in enumerate(lines):
        words = line.split(" ")
        if kind in ("form", "sides"):
            need(len(words) == 2 and words[0] == {"form": "form", "sides": "side"}[kind], number)
            form = plain_form(words[1])
            need(form is not None and not (kind == "form" and rows), number)
            names = [part[0] for part in plain_spots(form).values() if part]
            need(kind == "form" or form != () and not {"end", "stop", "mark"} & set(names) and (not rows or rows[-1] < form), number)
            rows.append(form)
        elif kind in ("plan", "house") and words[0] == "cell":
            need(len(words) > 1 and not calls and (words == ["cell", "_"] or re.fullmatch(NAME, words[1])), number)
            need(len(words) <= 5 and all(re.fullmatch(FIGURES, word) for word in words[2:]), number)
            need(all(int(word) > number for word in words[2:]), number)
            rows.append(() if words[1] == "_" else (words[1],) + tuple(map(int, words[2:])))
        elif kind in ("world", "house"):
            need(len(words) == 3 and words[0] == {"world": "reply", "house": "call"}[kind] and (kind == "world" or rows), number)
            cell, reply = plain_cell(words[1]), plain_reply(words[2])
            need(cell is not None and reply is not None and (not calls or calls[-1][0] < cell), number)
            calls.append((cell, reply))
        else:
            need(kind == "log" and len(words) == 2 and words[0] == "called", number)
            need(plain_cell(words[1]) is not None and plain_cell(words[1]) not in rows, number)
            rows.append(plain_cell(words[1]))
    if kind in ("form", "plan", "house"):
        need(rows, len(lines))
    if kind in ("plan", "house") and any(own >= len(rows) for cell in rows for own in cell[1:]):
        raise ZeroDivisionError
    return {"form": lambda: rows[0], "sides": lambda: tuple(rows), "plan": lambda: tuple(rows), "world": lambda: tuple(calls),
            "house": lambda: (tuple(rows), tuple(calls)), "log": lambda: tuple(rows)}[kind]()


READERS = {"form": (read_form, form_text), "sides": (read_sides, sides_text), "plan": (read_plan, plan_text),
           "house": (read_house, house_text), "world": (read_world, world_text), "log": (read_log, log_text)}


def told(kind, text):
    try:
        return ("read", READERS[kind][0](text))
    except BadLine as error:
        return ("bad", error.number)
    except Unfit:
        return ("unfit",)


def all_values():
    """Values of each kind."""
    rnd, rows = random.Random(3), []
    rows += [("form", form) for form in forms_of(SIGNS, 3)]
    rows += [("sides", tuple(sorted(book))) for book in BOOKS]
    for book, house, plain in houses(4, 150, 6, 6):
        world = random_world(rnd, book, house, 4)
        log = [cell for cell, reply in world + house[1]]
        rows += [("plan", house[0]), ("house", house), ("world", world), ("log", tuple(dict.fromkeys(log)))]
    rows += [("sides", tuple(sorted(("f", (name,)) for name in "abcdefghijklm"))), ("plan", ((),) * 30), ("plan", (MARK, ("mark",))),
             ("house", ((("mark", 1), ()), (((7, 7), ("mark", 0)),))), ("world", (((0,), END), ((1,), MARK))), ("log", ()), ("world", ())]
    return rows


VALUES = all_values()


class Texts(unittest.TestCase):

    def test_there_and_back(self):
        for kind, value in VALUES:
            reader, writer = READERS[kind]
            text = writer(value)
            self.assertEqual(reader(text), value)
            self.assertEqual(writer(as_lists(value)), text)
            self.assertEqual(writer(mixed(value, 1)), text)
            self.assertTrue(text == "" or text.endswith("\n"))
            self.assertEqual(plain_read(kind, text), ("read", value))
            if text:
                self.assertEqual(reader(text[:-1]), value)
                self.assertEqual(reader(text=text), value)

    def test_another_kind(self):
        for kind, value in VALUES[::7]:
            text = READERS[kind][1](value)
            for other in READERS:
                self.assertEqual(told(other, text), plain_read(other, text), (other, text))

    def test_spoiled(self):
        rnd, kinds = random.Random(5), {}
        words = ["form", "side", "cell", "call", "reply", "called", "_", "f", "0", "1", "2", "9", "0.1", "f(_)", "g(a,1)", "a", "end", "", "01", "f(a,_)"]
        for kind, value in VALUES * 6:
            lines = READERS[kind][1](value).split("\n")
            at = rnd.randrange(len(lines))
            turn, own = rnd.random(), lines[at].split(" ")
            if turn < 0.2:
                lines.insert(at, rnd.choice(lines))
            elif turn < 0.4:
                del lines[at]
            elif turn < 0.5:
                other = rnd.randrange(len(lines))
                lines[at], lines[other] = lines[other], lines[at]
            elif turn < 0.75:
                own[rnd.randrange(len(own))] = rnd.choice(words)
                lines[at] = " ".join(own)
            elif turn < 0.85:
                own.insert(rnd.randrange(len(own) + 1), rnd.choice(words))
                lines[at] = " ".join(own)
            else:
                at = rnd.randrange(len(lines[at]) + 1) if lines[at] else 0
                text = "\n".join(lines)
                lines = (text[:at] + rnd.choice(" \n_0fA(),.~") + text[at + rnd.randint(0, 1):]).split("\n")
            text = "\n".join(lines)
            answer = plain_read(kind, text)
            kinds[kind, answer[0]] = kinds.get((kind, answer[0]), 0) + 1
            self.assertEqual(told(kind, text), answer, (kind, text))
            if answer[0] == "read" and text.endswith("\n"):
                self.assertEqual(READERS[kind][1](answer[1]), text)
        for kind in READERS:
            self.assertGreater(kinds[kind, "read"], 5)
            self.assertGreater(kinds[kind, "bad"], 20)
        self.assertGreater(kinds["plan", "unfit"] + kinds["house", "unfit"], 15)

    def test_empty_texts(self):
        for kind in READERS:
            many = kind in ("form", "plan", "house")
            value = None if many else ()
            self.assertEqual(told(kind, ""), ("bad", 0) if many else ("read", value))
            self.assertEqual(told(kind, "\n"), ("bad", 0))
            self.assertEqual(told(kind, "\n\n"), ("bad", 0))
            self.assertEqual(told(kind, " "), ("bad", 0))

    def test_which_line(self):
        rows = (("form", "form _\nform _", 1), ("form", "form _\n\n", 1), ("form", "form f()", 0), ("form", "form", 0), ("form", "form a b", 0),
                ("form", "form  a", 0), ("form", " form a", 0), ("form", "form a ", 0), ("form", "Form a", 0), ("form", "form a\n ", 1),
                ("sides", "side a\nside a", 1), ("sides", "side f(a)\nside f(_)", 1), ("sides", "side _", 0), ("sides", "side end", 0),
                ("sides", "side f(mark)", 0), ("sides", "side f(stop)", 0), ("sides", "side a\nside b\n\n", 2), ("sides", "sides a", 0),
                ("plan", "cell", 0), ("plan", "cell _ 1\ncell _", 0), ("plan", "cell f 0\ncell _", 0), ("plan", "cell f 1 1 1 1\ncell _", 0),
                ("plan", "cell _\ncell f 1\ncell _", 1), ("plan", "cell _\ncall 0 a", 1), ("plan", "cell f 01\ncell _", 0),
                ("plan", "cell f 9\ncell", 1), ("plan", "cell F\n", 0), ("plan", "cell f(_)", 0), ("plan", "cell f _\ncell _", 0),
                ("plan", "cell _\n\ncell _", 1), ("plan", "cell abcdefghi", 0), ("plan", "cell f -1\ncell _", 0), ("plan", "cell 0\ncell _", 0),
                ("house", "call 0 a", 0), ("house", "cell _\ncall 0 a\ncall 0 b", 2), ("house", "cell _\ncall 1 a\ncall 0 b", 2),
                ("house", "cell _\ncall 0.0 a\ncall 0 b", 2), ("house", "cell _\ncall 0", 1), ("house", "cell _\ncall 0 a b", 1),
                ("house", "cell _\ncall 0 01", 1), ("house", "cell _\ncall 00 1", 1), ("house", "cell f 5\ncall 0 a\nreply 0 a", 2),
                ("house", "cell f 5\ncall 0 a\ncell _", 2), ("house", "cell _\nreply 0 a", 1), ("house", "cell f 7\ncall x a", 1),
                ("world", "call 0 a", 0), ("world", "reply 0 a\nreply 0 a", 1), ("world", "reply 1 a\nreply 0.9 a", 1), ("world", "reply 0 f()", 0),
                ("world", "reply 0 a\n\nreply 1 a", 1), ("log", "called 0\ncalled 0", 1), ("log", "called 0 1", 0), ("log", "called", 0),
                ("log", "called 1\ncalled 0\ncalled 1", 2), ("log", "call 0", 0), ("log", "called _", 0), ("log", "called 0\ncalled 00", 1))
        for kind, text, number in rows:
            self.assertEqual(told(kind, text), ("bad", number), (kind, text))
            self.assertEqual(plain_read(kind, text), ("bad", number), (kind, text))

    def test_unfit_behind_bad_lines(self):
        for text in ("cell f 1", "cell f 1 2\ncell _\n", "cell _\ncell f 2", "cell f 1 1 7\ncell _"):
            self.assertEqual((told("plan", text), told("house", text)), (("unfit",), ("unfit",)))
        self.assertEqual(told("house", "cell f 1\ncall 0 a"), ("unfit",))
        self.assertEqual(told("house", "cell f 1\ncall 0 a\ncall 0 b"), ("bad", 2))
        self.assertEqual(told("plan", "cell f 3\ncell g 1"), ("bad", 1))

    def test_more_than_the_bounds(self):
        many = "".join("cell f %d\n" % (number + 1) for number in range(60)) + "cell _\n"
        self.assertEqual(len(read_plan(many)), 61)
        calls = "cell _\n" + "".join("call %s a\n" % ".".join(["0"] * (number + 1)) for number in range(100))
        self.assertEqual(len(read_house(calls)[1]), 100)
        log = "".join("called %d\n" % number for number in range(3000))
        self.assertEqual((len(read_log(log)), told("log", log + "called 7")), (3000, ("bad", 3000)))
        self.assertEqual(len(read_sides("\n".join("side f(%s)" % name for name in "abcdefghijkl"))), 12)
        form = "form f(" + "a," * 60000 + "a)"
        self.assertEqual(told("form", form), ("bad", 0))
        side = plain_word(("f", tower(11), ("g", A), ()))
        self.assertEqual(told("sides", "side " + side), ("bad", 0))
        self.assertEqual(told("sides", "side " + plain_word(("f", tower(10), ("g", A), ()))), ("read", (("f", tower(10), ("g", A), ()),)))


if __name__ == "__main__":
    unittest.main()
