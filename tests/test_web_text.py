"""Promise 4: the text of a web, and reading it."""

import random
import unittest

from everyload.errors import Endless, Heeds, InvalidText, TooManyKinds
from everyload.handlers import Handler
from everyload.loads import Load
from everyload.samples import copier, dealer, every, sample_web
from everyload.webs import Web
from tests.support import STRANGE, Anything, Case, nested
from tests.tables import meter
from tests.webs import some_web

A = "takes a\n0 a 0 sends 1 x"
B = "takes b\n0 b 1\n1 b 0 sends 2 a"
HEEDS = "takes c d\n0 c 1\n0 d 0\n1 c 1\n1 d 0"
HEEDS_BEHIND = "takes h g\n0 h 1\n0 g 1\n1 h 2\n1 g 2\n2 h 2 sends 1 x\n2 g 3\n3 h 3\n3 g 3"
FIVE = "\nand\n".join(f"takes {kind}\n0 {kind} 0" for kind in "abcde")


def text(*parts):
    return "\nand\n".join(parts)


class Texts(Case):
    def test_a_text(self):
        web = Web(Handler.read(A), Handler.read(B))
        self.same(str(web), A + "\nand\n" + B)
        self.same(Web.read(A + "\nand\n" + B), web)
        self.same(Web.read(text=A + "\nand\n" + B), web)

    def test_one_handler(self):
        self.same(Web.read(A), Web(Handler.read(A)))
        self.same(str(Web.read(A)), A)

    def test_five_handlers(self):
        self.same(len(Web.read(FIVE)), 5)
        self.same(str(Web.read(FIVE)), FIVE)

    def test_the_sample(self):
        self.same(Web.read(str(sample_web())), sample_web())

    def test_a_kind_that_is_called_like_the_line(self):
        web = Web(dealer("and", ("and1", "takes")), copier("takes", Load(("sends", 1))))
        self.same(str(web).split("\n")[:2], ["takes and", "0 and 1 sends 1 and1"])
        self.same(Web.read(str(web)), web)

    def test_there_and_back(self):
        source = random.Random(4)
        for _ in range(100):
            web = some_web(source)
            self.same(Web.read(str(web)), web)
            self.same(str(Web.read(str(web))), str(web))

    def test_a_long_text(self):
        kinds = ("a", "b", "c", "d")
        web = Web(Handler(*meter(kinds, (1, 2, 3, 599), 600)), every(("e", "f", "g", "h"), 600, "a"))
        self.same(Web.read(str(web)), web)


class NoTexts(Case):
    def refused(self, value):
        self.fails(InvalidText, {"value": value}, Web.read, value)

    def test_what_is_no_string(self):
        for value in STRANGE + (A.encode(), [A], (A,), sample_web(), Handler.read(A), Anything(), nested(30)):
            self.refused(value)

    def test_the_lines_between(self):
        for value in ("and", "\nand\n", A + "\nand", "and\n" + A, A + "\nand\n", "\nand\n" + A, A + "\n" + B,
                      A + "\n\n" + B, text(A, "", B), text(A, B) + "\n", "\n" + text(A, B), A + "\nAND\n" + B,
                      A + "\n and\n" + B, A + "\nand \n" + B, A + "\nand\nand\n" + B, A + "and" + B, A + " and " + B,
                      A + "\nor\n" + B, A + "\rand\r" + B):
            self.refused(value)

    def test_parts_that_are_no_handlers(self):
        for part in ("", "takes", "takes b", "takes b\n0 b 1", "takes b\n0 b 0 sends", "takes b\n0 b 0\n", "b", "x" * 9,
                     "takes b\n0 b 0 sends 0 x", "takes b\n0 b 0 sends 1 x, 1 c", "takes b b\n0 b 0\n0 b 0",
                     "takes b\n1 b 0", "takes  b\n0 b 0", "takes B\n0 B 0", "takes a b c d e f g h i\n0 a 0"):
            for value in (part, text(part, A), text(A, part), text(A, B, part)):
                self.refused(value)

    def test_six_handlers(self):
        self.refused(text(FIVE, "takes f\n0 f 0"))
        self.refused(text(FIVE, "takes f g\n0 f 0\n0 g 0", "takes h\n0 h 0"))
        self.refused(text(FIVE, HEEDS_BEHIND))

    def test_two_that_take_the_same_kind(self):
        self.refused(text(A, A))
        self.refused(text(A, B, "takes c b\n0 c 0\n0 b 0"))
        self.refused(text(HEEDS, "takes c\n0 c 0"))


class Refused(Case):
    def test_heeding(self):
        told = {"state": 0, "one": "c", "other": "d"}
        self.fails(Heeds, told, Web.read, HEEDS)
        self.fails(Heeds, told, Web.read, text(A, HEEDS))
        self.fails(Heeds, told, Web.read, text(HEEDS, HEEDS_BEHIND))
        behind = {"state": 1, "one": "h", "other": "g"}
        self.fails(Heeds, behind, Web.read, HEEDS_BEHIND)
        self.fails(Heeds, behind, Web.read, text(A, HEEDS_BEHIND, B, HEEDS))

    def test_too_many_kinds(self):
        many = str(every(("d", "e", "f", "g", "h", "i", "j"), 2, "x"))
        self.fails(TooManyKinds, {"limit": 8}, Web.read, text(A, B, many))
        self.same(len(Web.read(text(A, many)).kinds), 8)

    def test_endless(self):
        self.fails(Endless, {}, Web.read, "takes a\n0 a 0 sends 1 a")
        self.fails(Endless, {}, Web.read, text("takes a\n0 a 0 sends 1 b", B))

    def test_the_first_error_that_is_due(self):
        many = str(every(("e", "f", "i", "j", "k", "l", "m", "n"), 1, "e"))
        self.fails(Endless, {}, Web.read, many)
        self.fails(TooManyKinds, {"limit": 8}, Web.read, text(many, A))
        self.fails(Heeds, {"state": 0, "one": "c", "other": "d"}, Web.read, text(many, A, HEEDS))
        for value in (text(many, A, HEEDS, HEEDS), text(many, HEEDS, A, "takes"), text(HEEDS, many, A) + "\n"):
            self.fails(InvalidText, {"value": value}, Web.read, value)


if __name__ == "__main__":
    unittest.main()
