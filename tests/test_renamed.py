"""Promise 8: handlers with other names."""

import unittest

from everyload.errors import InvalidPairs
from everyload.handlers import Handler
from everyload.loads import Load
from tests.support import Anything, Case, nested

# Takes b and a, sends a, c and d, and at a state to which nothing leads also e.
TEXT = "takes b a\n0 b 1\n0 a 0 sends 1 c\n1 b 0 sends 2 a, 3 d\n1 a 1 sends 1 c\n2 b 2 sends 1 e\n2 a 1 sends 1 c"


def swap(text, names):
    """The text with the words of a dict exchanged; the loads in it stay as they are otherwise."""
    return "\n".join(" ".join(names.get(word, word) for word in line.split(" ")) for line in text.split("\n"))


class Renamed(Case):
    def setUp(self):
        self.handler = Handler.read(TEXT)

    def test_none_at_all(self):
        self.same(self.handler.renamed(()), self.handler)

    def test_a_kind(self):
        renamed = self.handler.renamed((("b", "box"),))
        self.same(str(renamed), swap(TEXT, {"b": "box"}))
        self.same(renamed.kinds, ("box", "a"))

    def test_what_is_sent(self):
        renamed = self.handler.renamed(pairs=(("c", "abcdefgh"),))
        self.same(str(renamed), swap(TEXT, {"c": "abcdefgh"}))
        self.same(renamed.sent, ("a", "abcdefgh", "d"))

    def test_what_is_taken_and_sent(self):
        renamed = self.handler.renamed((("a", "cc"),))
        self.same(renamed.kinds, ("b", "cc"))
        self.same(renamed.step(1, "b"), (0, Load(("cc", 2), ("d", 3))))
        self.same(renamed.after(Load(("b", 2))), (0, Load(("cc", 2), ("d", 3))))

    def test_what_only_a_state_to_which_nothing_leads_sends(self):
        renamed = self.handler.renamed((("e", "x"),))
        self.same(str(renamed), swap(TEXT, {"e": "x"}))
        self.same(renamed.sent, ("a", "c", "d"))

    def test_sent_names_are_put_in_order(self):
        renamed = self.handler.renamed((("a", "z"),))
        self.same(renamed.rows[1][0], (0, (("d", 3), ("z", 2))))
        self.same(renamed.sent, ("c", "d", "z"))

    def test_names_that_change_places(self):
        renamed = self.handler.renamed((("a", "d"), ("d", "a")))
        self.same(renamed.kinds, ("b", "d"))
        self.same(renamed.rows[1][0], (0, (("a", 3), ("d", 2))))
        renamed = self.handler.renamed((("a", "b"), ("b", "a")))
        self.same(renamed.kinds, ("a", "b"))
        self.same(renamed.step(1, "a"), (0, Load(("b", 2), ("d", 3))))
        renamed = self.handler.renamed((("a", "b"), ("b", "c"), ("c", "d"), ("d", "e"), ("e", "a")))
        self.same(renamed.renamed((("b", "a"), ("c", "b"), ("d", "c"), ("e", "d"), ("a", "e"))), self.handler)

    def test_a_name_for_itself(self):
        self.same(self.handler.renamed((("a", "a"), ("e", "e"))), self.handler)

    def test_the_old_one_stays_as_it_is(self):
        self.handler.renamed((("a", "z"), ("b", "a")))
        self.same(str(self.handler), TEXT)


class Refused(Case):
    def setUp(self):
        self.handler = Handler.read(TEXT)

    def wrong(self, index, *pairs):
        self.fails(InvalidPairs, {"index": index}, self.handler.renamed, pairs)

    def test_no_tuple(self):
        for value in (None, True, 0, "", "ab", [], [("a", "x")], {}, {"a": "x"}, {("a", "x")}, iter(()), Load(),
                      self.handler, Anything()):
            self.fails(InvalidPairs, {"index": None}, self.handler.renamed, value)

    def test_no_pair(self):
        for value in (None, "ax", ["a", "x"], (), ("a",), ("a", "x", "y"), {"a": "x", "b": "y"}, 0, True, ("a", 1),
                      ("a", None), ("a", "X"), ("a", ""), ("a", "abcdefghi"), ("a", "1"), ("a", True), ("a", ["x"]),
                      (1, "x"), (None, "x"), ("A", "x"), ("", "x"), (["a"], "x"), (("a",), "x"), ("a", ("x",)),
                      Anything(), (Anything(), "x"), ("a", Anything()), nested(30), ("a", b"x")):
            self.wrong(0, value)
            self.wrong(1, ("b", "y"), value, None)

    def test_an_old_name_that_is_none(self):
        self.wrong(0, ("x", "y"))
        self.wrong(0, ("x", "x"))
        self.wrong(2, ("a", "x"), ("b", "y"), ("x", "z"), ("c", "c"))

    def test_an_old_name_again(self):
        self.wrong(1, ("a", "x"), ("a", "y"))
        self.wrong(1, ("a", "x"), ("a", "x"))
        self.wrong(2, ("a", "x"), ("b", "y"), ("a", "z"), ("b", "z"))

    def test_a_new_name_again(self):
        self.wrong(1, ("a", "x"), ("b", "x"))
        self.wrong(2, ("a", "x"), ("b", "y"), ("c", "x"))
        self.wrong(1, ("a", "b"), ("b", "b"))

    def test_a_new_name_that_stays(self):
        for name in ("a", "c", "d", "e"):
            self.wrong(0, ("b", name))
            self.wrong(0, ("b", name), ("c" if name != "c" else "d", "x"))
        self.wrong(1, ("a", "b"), ("b", "c"))
        self.wrong(1, ("a", "b"), ("b", "e"), ("c", "a"), ("x", "y"))
        self.wrong(0, ("e", "a"))

    def test_the_first_wrong_pair_counts(self):
        self.wrong(0, ("a", "c"), ("b", "B"))
        self.wrong(1, ("a", "c"), ("b", "c"), ("c", "x"))
        self.wrong(2, ("a", "c"), ("c", "a"), ("b", "d"))


if __name__ == "__main__":
    unittest.main()
