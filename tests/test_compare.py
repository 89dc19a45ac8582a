"""Promise 3: the order of loads."""

import itertools
import unittest

from everyload.errors import InvalidKinds, NotALoad, UnknownKind
from everyload.loads import Load, compare
from tests.support import STRANGE, Anything, Case, nested

GREAT = 10 ** 45


def ordered(kinds, most):
    """The loads of up to so many messages, in the words of point 9."""
    found = []
    for size in range(most + 1):
        of_size = [counts for counts in itertools.product(range(size + 1), repeat=len(kinds)) if sum(counts) == size]
        for counts in sorted(of_size, reverse=True):
            found.append(Load(*[(kind, count) for kind, count in zip(kinds, counts) if count > 0]))
    return found


class Order(Case):
    def test_the_loads_of_point_nine(self):
        self.assertEqual(list(map(str, ordered(("a", "b"), 2))), ["", "1 a", "1 b", "2 a", "1 a, 1 b", "2 b"])

    def test_all_small_loads(self):
        for kinds in (("a",), ("a", "b"), ("b", "a"), ("c", "a", "b"), ("a", "b", "c")):
            loads = ordered(kinds, 3)
            for (at, one), (place, other) in itertools.product(enumerate(loads), repeat=2):
                self.same(compare(one, other, kinds), (at > place) - (at < place))

    def test_the_order_of_the_kinds_counts(self):
        one, other = Load(("a", 1)), Load(("b", 1))
        self.same(compare(one, other, ("a", "b")), -1)
        self.same(compare(one, other, ("b", "a")), 1)
        self.same(compare(one, other, ("c", "b", "a")), 1)

    def test_great_loads(self):
        one, other = Load(("a", GREAT), ("b", 1)), Load(("a", GREAT), ("c", 1))
        self.same(compare(one, other, ("a", "b", "c")), -1)
        self.same(compare(one, other, ("a", "c", "b")), 1)
        self.same(compare(one + one, one, ("a", "b")), 1)
        self.same(compare(one, Load(("a", GREAT), ("b", 1)), ("b", "a")), 0)
        self.same(compare(Load(("a", GREAT)), Load(("b", GREAT - 1)), ("a", "b")), 1)

    def test_empty_loads(self):
        self.same(compare(Load(), Load(), ("a",)), 0)
        self.same(compare(Load(), Load(("a", 1)), ("a",)), -1)
        self.same(compare(Load(("a", 1)), Load(), ("a",)), 1)

    def test_more_kinds_than_a_handler_may_have(self):
        kinds = tuple("abcdefghijklmnopqrstuvwxyz")
        self.same(compare(Load(("z", 1)), Load(("y", 1)), kinds), 1)

    def test_arguments_by_name(self):
        self.same(compare(kinds=("a",), other=Load(("a", 1)), one=Load()), -1)


class Errors(Case):
    def test_what_is_no_load(self):
        load = Load(("a", 1))
        for value in STRANGE + ((("a", 1),), "1 a", nested(30), Anything()):
            self.fails(NotALoad, {"value": value}, compare, value, load, ("a",))
            self.fails(NotALoad, {"value": value}, compare, load, value, ("a",))

    def test_kinds(self):
        load = Load(("a", 1))
        for kinds in (None, "a", "ab", ["a"], {"a": 1}, {"a"}, 3, (), [], iter("a"), Load(("a", 1)), True):
            self.fails(InvalidKinds, {"index": None}, compare, load, load, kinds)
        for wrong in ("A", "", "abcdefghi", 3, None, True, ("a",), ["a"], b"a", "a b", "1", Anything(), nested(30)):
            self.fails(InvalidKinds, {"index": 0}, compare, load, load, (wrong,))
            self.fails(InvalidKinds, {"index": 1}, compare, load, load, ("a", wrong, "a", 5))
        self.fails(InvalidKinds, {"index": 1}, compare, load, load, ("a", "a"))
        self.fails(InvalidKinds, {"index": 3}, compare, load, load, ("a", "b", "c", "b", ""))

    def test_unknown_kinds(self):
        one, other = Load(("c", 1), ("b", 1), ("a", 1)), Load(("e", 1), ("d", 1), ("a", 2))
        self.fails(UnknownKind, {"value": "b"}, compare, one, other, ("a",))
        self.fails(UnknownKind, {"value": "d"}, compare, other, one, ("a",))
        self.fails(UnknownKind, {"value": "d"}, compare, one, other, ("c", "b", "a"))
        self.fails(UnknownKind, {"value": "e"}, compare, one, other, ("c", "b", "a", "d"))
        self.fails(UnknownKind, {"value": "a"}, compare, Load(), Load(("a", 1)), ("b",))

    def test_which_error_comes_first(self):
        unknown = Load(("z", 1))
        self.fails(NotALoad, {"value": 1}, compare, 1, 2, 3)
        self.fails(NotALoad, {"value": 2}, compare, unknown, 2, 3)
        self.fails(InvalidKinds, {"index": None}, compare, unknown, unknown, 3)
        self.fails(InvalidKinds, {"index": 1}, compare, unknown, unknown, ("a", "a"))


if __name__ == "__main__":
    unittest.main()
