"""Promise 1: loads, made of pairs and of texts, and what they tell."""

import itertools
import unittest

from everyload.errors import InvalidName, InvalidPairs, InvalidText
from everyload.loads import Load
from tests.support import STRANGE, Anything, Case, nested

GREAT = 10 ** 45 - 1


class Count(int):
    pass


class Word(str):
    def __str__(self):
        return "another"


class Pairs(Case):
    def test_they_come_ascending_by_names(self):
        for pairs in itertools.permutations([("b", 2), ("a10", 1), ("a2", 3), ("a", GREAT)]):
            for load in (Load(*pairs), Load.of(pairs), Load.of(pairs=pairs)):
                self.same(load.pairs, (("a", GREAT), ("a10", 1), ("a2", 3), ("b", 2)))
                self.same(load.names, ("a", "a10", "a2", "b"))
                self.same(load.size, GREAT + 6)
                self.same(len(load), 4)

    def test_the_empty_load(self):
        for load in (Load(), Load.of(()), Load.read("")):
            self.same(load.pairs, ())
            self.same(load.names, ())
            self.same(load.size, 0)
            self.same(len(load), 0)
            self.assertFalse(load)
            self.same(str(load), "")
            self.same(repr(load), "Load(0 names, size 0)")

    def test_a_load_with_a_name_is_true(self):
        self.assertTrue(Load(("a", 1)))

    def test_names_of_one_and_of_eight_signs(self):
        for name in ("a", "z", "a0", "z9", "abcdefgh", "a2345678", "zzzzzzzz"):
            self.same(Load((name, 1)).pairs, ((name, 1),))

    def test_counts_of_any_size(self):
        for count in (1, 2, GREAT, 10 ** 45, 10 ** 60):
            self.same(Load(("a", count)).pairs, (("a", count),))

    def test_classes_of_the_caller(self):
        load = Load((Word("box"), Count(3)))
        self.same(load.pairs, (("box", 3),))
        self.same(str(load), "3 box")

    def test_what_is_no_tuple(self):
        for strange in (None, [], [("a", 1)], "", "a", {}, {"a": 1}, {("a", 1)}, 3, iter(()), Load(), zip("a", [1])):
            self.fails(InvalidPairs, {"index": None}, Load.of, strange)

    def test_no_pair(self):
        wrong = [("a",), ("a", 1, 1), ["a", 1], "a1", ("a", 0), ("a", -1), ("a", True), ("a", False), ("a", None),
                 ("a", "1"), ("a", (1,)), (1, "a"), (None, 1), (True, 1), (("a",), 1), (["a"], 1), ("A", 1), ("", 1),
                 ("1", 1), ("1a", 1), ("_a", 1), ("a_", 1), ("a b", 1), (" a", 1), ("a\n", 1), ("aB", 1), ("a-b", 1),
                 ("abcdefghi", 1), ("a23456789", 1), (b"a", 1), ("\u00e4", 1), ("a\u0663", 1), ("\u00aa", 1), None,
                 3, (), nested(30), Load(("a", 1)), Anything(), ({}, 1), ("a", {})]
        for pair in wrong:
            self.fails(InvalidPairs, {"index": 0}, Load, pair)
            self.fails(InvalidPairs, {"index": 0}, Load.of, (pair,))
            self.fails(InvalidPairs, {"index": 2}, Load, ("x", 1), ("y", 1), pair, ("x", 1), None)

    def test_a_name_again(self):
        self.fails(InvalidPairs, {"index": 1}, Load, ("a", 1), ("a", 1))
        self.fails(InvalidPairs, {"index": 3}, Load, ("a", 1), ("c", 1), ("b", 2), ("c", 2), ("a", 1))
        self.fails(InvalidPairs, {"index": 3}, Load.of, (("a", 1), ("c", 1), ("b", 2), ("c", 2), ("a", 0)))

    def test_a_load_never_changes(self):
        load = Load(("a", 1))
        for name in ("pairs", "names", "size"):
            with self.assertRaises(AttributeError):
                setattr(load, name, ())
        self.same(load.pairs, (("a", 1),))


class Counts(Case):
    def test_the_count_of_a_name(self):
        load = Load(("box", 2), ("label", GREAT))
        self.same([load["box"], load["label"], load["a"], load["boxes"], load["bo"]], [2, GREAT, 0, 0, 0])
        self.same(Load()["box"], 0)

    def test_only_names_have_one(self):
        load = Load(("a", 2))
        wrong = [3, 0, -1, None, True, "A", "", "1a", "a b", "abcdefghi", "a\n", b"a", ("a",), ["a"], {}, slice(1),
                 ("a", 2), load, Anything(), nested(30)]
        for value in wrong:
            self.fails(InvalidName, {"value": value}, lambda: load[value])

    def test_what_is_in_a_load(self):
        load = Load(("a", 2), ("abcdefgh", 1))
        self.assertIs("a" in load, True)
        self.assertIs("abcdefgh" in load, True)
        self.assertIs("b" in load, False)
        self.assertIs("a" not in load, False)
        for value in STRANGE + (Anything(), load, nested(30), ("a", 2), ["a"], 2, b"a"):
            self.assertIs(value in load, False)

    def test_a_load_is_not_iterated_over(self):
        self.assertRaises(TypeError, list, Load(("a", 1)))


class Texts(Case):
    TEXTS = {
        "": (),
        "1 a": (("a", 1),),
        "2 box, 1 label": (("box", 2), ("label", 1)),
        "10 a, 9 a0, 100 aa, 1 abcdefgh": (("a", 10), ("a0", 9), ("aa", 100), ("abcdefgh", 1)),
        str(GREAT) + " x, " + str(10 ** 44) + " y9": (("x", GREAT), ("y9", 10 ** 44)),
    }

    def test_there_and_back(self):
        for text, pairs in self.TEXTS.items():
            self.same(str(Load.of(pairs)), text)
            self.same(Load.read(text).pairs, pairs)
            self.same(Load.read(text=text), Load(*pairs))

    def test_texts_longer_than_python_likes(self):
        text = "7" * 6000 + " a"
        load = Load.read(text)
        self.assertTrue(str(load) == text)
        self.assertTrue(load["a"] == 7 * (10 ** 6000 // 9))
        self.assertEqual(repr(load), "Load(1 names, size " + "7" * 6000 + ")")
        text = "1" + "0" * 127 + " a, 1" + "0" * 128 + " b, 1" + "0" * 129 + " c"
        self.same(Load.read(text), Load(("a", 10 ** 127), ("b", 10 ** 128), ("c", 10 ** 129)))
        self.same(str(Load.read(text)), text)

    def test_what_is_no_text_of_a_load(self):
        wrong = [" ", "\n", "a", "1", "1 ", " a", "1a", "0 a", "-1 a", "+1 a", "01 a", "00 a", "1  a", " 1 a", "1 a ",
                 "1 a\n", "\n1 a", "1 a,1 b", "1 a,  1 b", "1 a, ", ", 1 a", "1 a,", "1 a 1 b", "1 b, 1 a", "1 a, 1 a",
                 "1 a, 2 a", "1 A", "1 1a", "1 abcdefghi", "1 a_b", "1_0 a", "1.0 a", "one a", "a 1", "1 a, b",
                 "1 a, 1", "1 a, 0 b", "1 a; 1 b", "1 a, 1 b, 1 b", "\u0661 a", "\uff11 a", "1 \u00e4", "1\ta", "1 a b",
                 "0x1 a", "1e1 a", "1 b, 1 a, 1 c", "9" * 6000, "9" * 6000 + " ", "1 10 a", "2 box label", "None a",
                 "Load(1 names, size 1)", "1 a\n2 b", "1 a, 1 a0, 1 a"]
        for text in wrong:
            self.fails(InvalidText, {"value": text}, Load.read, text)

    def test_what_is_no_text(self):
        for value in (None, 0, 1, True, b"", b"1 a", [], ["1 a"], (), ("1 a",), {}, Load(), Anything(), nested(30)):
            self.fails(InvalidText, {"value": value}, Load.read, value)

    def test_repr(self):
        self.same(repr(Load(("a", 1))), "Load(1 names, size 1)")
        self.same(repr(Load(("box", 2), ("label", 1))), "Load(2 names, size 3)")
        self.same(repr(Load(("box", 10 ** 45))), "Load(1 names, size " + "1" + "0" * 45 + ")")


class Equality(Case):
    def test_equal_if_the_pairs_are(self):
        load = Load(("a", 1), ("b", 2))
        self.assertTrue(load == Load(("b", 2), ("a", 1)))
        self.assertFalse(load != Load(("b", 2), ("a", 1)))
        for other in (Load(), Load(("a", 1)), Load(("a", 2), ("b", 1)), Load(("a", 1), ("c", 2)),
                      Load(("a", 1), ("b", 2), ("c", 1)), Load(("a", 1), ("b", 3))):
            self.assertFalse(load == other)
            self.assertTrue(load != other)
            self.assertFalse(other == load)

    def test_never_equal_to_what_is_no_load(self):
        load = Load(("box", 1))
        for value in STRANGE + (Anything(), (("box", 1),), "1 box", nested(30)):
            self.assertIs(load == value, False)
            self.assertIs(load != value, True)
        self.assertIs(Load() == (), False)
        self.assertIs(Load() == "", False)


if __name__ == "__main__":
    unittest.main()
