"""Promises 4 and 6: the text of a handler, and reading it."""

import unittest

from everyload.errors import Heeds, InvalidText
from everyload.handlers import Handler
from everyload.loads import Load
from tests.support import STRANGE, Anything, Case, nested
from tests.tables import all_tables, heeding, meter, tail

GREAT = 10 ** 45 - 1
EIGHT = ("a", "b", "c", "d", "e", "f", "g", "h")
TEXT = "takes b a\n0 b 1\n0 a 0 sends 1 c\n1 b 0 sends 2 b, 10 c\n1 a 1 sends 1 c"
ROWS = (((1, ()), (0, (("c", 1),))), ((0, (("b", 2), ("c", 10))), (1, (("c", 1),))))


class Texts(Case):
    def test_a_text(self):
        self.same(str(Handler(("b", "a"), ROWS)), TEXT)
        self.same(Handler.read(TEXT), Handler(("b", "a"), ROWS))
        self.same(Handler.read(text=TEXT).rows, ROWS)

    def test_one_kind_one_state(self):
        self.same(str(Handler(("abcdefgh",), (((0, ()),),))), "takes abcdefgh\n0 abcdefgh 0")
        self.same(Handler.read("takes a\n0 a 0").rows, (((0, ()),),))

    def test_great_counts(self):
        text = "takes a\n0 a 0 sends " + str(GREAT) + " a, 1 b9"
        self.same(Handler.read(text).rows, (((0, (("a", GREAT), ("b9", 1))),),))
        self.same(str(Handler.read(text)), text)

    def test_eight_kinds_and_six_hundred_states(self):
        kinds, rows = meter(EIGHT, (1, 2, 3, 4, 5, 6, 7, 599), 600)
        text = str(Handler(kinds, rows))
        self.same(text.split("\n")[0], "takes a b c d e f g h")
        self.same(text.split("\n")[-1], "599 h 598 sends 1 out")
        self.same(len(text.split("\n")), 4801)
        self.same(Handler.read(text).rows, rows)

    def test_there_and_back(self):
        tables = [(("b", "a"), rows) for rows in all_tables(2, 2, ((), (("c", 1),)))]
        tables = tables + [tail(5, 7), meter(("x", "y"), (3, 4), 10, "z", ((), (("y", 1), ("z", 2))))]
        for kinds, rows in tables:
            if heeding(kinds, rows) is None:
                handler = Handler(kinds, rows)
                self.same(Handler.read(str(handler)), handler)
                self.same(str(Handler.read(str(handler))), str(handler))

    def test_states_to_which_nothing_leads(self):
        text = "takes a b\n0 a 0\n0 b 0\n1 a 2\n1 b 1\n2 a 2\n2 b 1 sends 1 c"
        self.same(Handler.read(text).reachable, (0,))
        self.same(str(Handler.read(text)), text)


class Refused(Case):
    def test_what_is_no_string(self):
        for value in STRANGE + (0, TEXT.encode(), [TEXT], (TEXT,), Handler.read(TEXT), Load(), Anything(), nested(30)):
            self.fails(InvalidText, {"value": value}, Handler.read, value)

    def test_the_first_line(self):
        for line in ("", "takes", "takes ", " takes a", "takes  a", "takes a ", "Takes a", "take a", "a", "takes A",
                     "takes 1", "takes abcdefghi", "takes a a", "takes a_", "takes\ta", "takes a,b", "takes a\r",
                     "takesa", "takes a\n"):
            self.fails(InvalidText, {"value": line}, Handler.read, line)
            text = line + "\n0 a 0"
            self.fails(InvalidText, {"value": text}, Handler.read, text)

    def test_the_first_line_alone(self):
        for text in ("takes a", "takes a b", "takes a\n", "takes " + " ".join(EIGHT)):
            self.fails(InvalidText, {"value": text}, Handler.read, text)

    def test_wrong_kinds_on_all_lines(self):
        for kind in ("A", "1", "", "abcdefghi", "a_", "aB", "a-b", "a\t", "~"):
            text = "takes " + kind + "\n0 " + kind + " 0"
            self.fails(InvalidText, {"value": text}, Handler.read, text)
            text = "takes a " + kind + "\n0 a 0\n0 " + kind + " 0"
            self.fails(InvalidText, {"value": text}, Handler.read, text)
        text = "takes a a\n0 a 0\n0 a 0"
        self.fails(InvalidText, {"value": text}, Handler.read, text)

    def test_the_other_lines(self):
        wrong = ("", " ", "0 a", "0 a ", "a 0 0", "0 b 0", "1 a 0", "00 a 0", "0 a 00", "0 a 01", "0 a +0", "0 a -0",
                 "0 a 1", "0 a 2", "0 a -1", " 0 a 0", "0 a 0 ", "0  a 0", "0 a  0", "0 a 0\r", "0 a 0 sends",
                 "0 a 0 sends ", "0 a 0 sends nothing", "0 a 0 sends  1 b", "0 a 0  sends 1 b", "0 a 0 send 1 b",
                 "0 a 0 sends 1 b ", "0 a 0 sends 0 b", "0 a 0 sends 01 b", "0 a 0 sends 1 c, 1 b",
                 "0 a 0 sends 1 b, 1 b", "0 a 0 sends 1 b,1 c", "0 a 0 sends 1 b, ", "0 a 0 sends b", "0 a 0 1 b",
                 "0 a 0 sends 1 B", "0 a 0 sends 1 abcdefghi", "0 a 0 sends 1 b sends 1 c", "0 a 0 sends -1 b",
                 "0 a 0\n", "\n0 a 0", "0 a 0\n\n1 a 0", "0 a 0\n1 a 0\n", "0 a 0\n0 a 0", "0 a 0\n2 a 0",
                 "1 a 0\n0 a 0", "0 a 0\n1 a 2", "0 a 0\nand", "0 a " + "9" * 6000, "0 a \u0660", "x a 0", "True a 0",
                 "0 a 0\ntakes b\n0 b 0", "0 A 0", "0 a 0 sends 1 b\t", "0 a 0 Sends 1 b", "0 a none")
        for lines in wrong:
            text = "takes a\n" + lines
            self.fails(InvalidText, {"value": text}, Handler.read, text)

    def test_lines_in_another_order_or_number(self):
        lines = TEXT.split("\n")
        for at in range(1, 4):
            swapped = lines[:at] + [lines[at + 1], lines[at]] + lines[at + 2:]
            self.fails(InvalidText, {"value": "\n".join(swapped)}, Handler.read, "\n".join(swapped))
        for at in range(5):
            fewer = "\n".join(lines[:at] + lines[at + 1:])
            self.fails(InvalidText, {"value": fewer}, Handler.read, fewer)
            more = "\n".join(lines[:at] + [lines[at]] + lines[at:])
            self.fails(InvalidText, {"value": more}, Handler.read, more)

    def test_every_sign_counts(self):
        for at in range(len(TEXT)):
            for put in ("", " ", "\n", "~"):
                text = TEXT[:at] + put + TEXT[at + 1:]
                if text != TEXT and text != TEXT.replace("10 c", "1 c") and text != TEXT.replace("10 c", "0 c"):
                    self.fails(InvalidText, {"value": text}, Handler.read, text)

    def test_nine_kinds(self):
        nine = EIGHT + ("i",)
        text = "takes " + " ".join(nine) + "\n" + "\n".join(f"0 {kind} 0" for kind in nine)
        self.fails(InvalidText, {"value": text}, Handler.read, text)

    def test_six_hundred_and_one_states(self):
        text = "takes a\n" + "\n".join(f"{state} a 0" for state in range(601))
        self.fails(InvalidText, {"value": text}, Handler.read, text)
        text = "takes a\n" + "\n".join(f"{state} a 0" for state in range(600))
        self.same(len(Handler.read(text)), 600)

    def test_long_texts(self):
        for text in ("a" * 200000, "takes " + "a " * 90000, "takes a" + "\n" * 200000, "takes a\n0 a 0 sends " +
                     ", ".join(["1 b"] * 30000), " " * 200000):
            self.fails(InvalidText, {"value": text}, Handler.read, text)


class Heeding(Case):
    def test_texts_of_handlers_that_heed(self):
        text = "takes a b\n0 a 1\n0 b 0\n1 a 1\n1 b 0 sends 1 c"
        self.fails(Heeds, {"state": 0, "one": "a", "other": "b"}, Handler.read, text)
        text = "takes z a\n0 z 1\n0 a 1\n1 z 1\n1 a 0 sends 1 c"
        self.fails(Heeds, {"state": 0, "one": "z", "other": "a"}, Handler.read, text)

    def test_a_wrong_text_that_would_heed(self):
        text = "takes a b\n0 a 1\n0 b 0\n1 a 1\n1 b 0 sends 1 c"
        for wrong in (text + "\n", text + " ", text + "\n2 a 0", text.replace("1 c", "01 c"), text + ", 1 c"):
            self.fails(InvalidText, {"value": wrong}, Handler.read, wrong)


if __name__ == "__main__":
    unittest.main()
