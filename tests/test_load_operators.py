"""Promise 2: sums, differences, unions, cuts, multiples and comparisons of loads."""

import itertools
import operator
import unittest

from everyload.errors import InvalidNumber, Lacking, NotALoad
from everyload.loads import Load
from tests.support import STRANGE, Anything, Case, nested

GREAT = 10 ** 45 - 1
NAMES = ("a", "b", "c")


def bag(counts):
    return Load(*[(name, count) for name, count in zip(NAMES, counts) if count > 0])


def small_bags():
    """Each triple of small counts, with its load."""
    return [(counts, bag(counts)) for counts in itertools.product((0, 1, 2), (0, 1, 3), (0, 1))]


class Operators(Case):
    def test_all_small_loads(self):
        for (left, one), (right, other) in itertools.product(small_bags(), repeat=2):
            pairs = list(zip(left, right))
            self.same(one + other, bag([a + b for a, b in pairs]))
            self.same(one | other, bag([max(a, b) for a, b in pairs]))
            self.same(one & other, bag([min(a, b) for a, b in pairs]))
            lacks = [name for name, (a, b) in zip(NAMES, pairs) if a < b]
            if lacks:
                self.fails(Lacking, {"name": lacks[0]}, lambda: one - other)
            else:
                self.same(one - other, bag([a - b for a, b in pairs]))
            self.same(one, bag(left))
            self.same(other, bag(right))

    def test_great_counts(self):
        one, other = Load(("a", GREAT), ("b", 1)), Load(("a", 1), ("c", GREAT))
        self.same((one + other).pairs, (("a", 10 ** 45), ("b", 1), ("c", GREAT)))
        self.same((one | other).pairs, (("a", GREAT), ("b", 1), ("c", GREAT)))
        self.same((one & other).pairs, (("a", 1),))
        self.same((one - Load(("a", GREAT))).pairs, (("b", 1),))
        self.same((one * GREAT).pairs, (("a", GREAT * GREAT), ("b", GREAT)))
        twice = one + one
        self.same((twice + twice).pairs, (("a", 4 * GREAT), ("b", 4)))

    def test_names_come_ascending(self):
        one, other = Load(("d", 1), ("b", 1)), Load(("c", 1), ("a", 1), ("e", 1))
        self.same((one + other).names, ("a", "b", "c", "d", "e"))
        self.same((one | other).names, ("a", "b", "c", "d", "e"))

    def test_lacking_has_the_first_name(self):
        load = Load(("b", 2), ("d", 1))
        self.fails(Lacking, {"name": "c"}, lambda: load - Load(("e", 1), ("c", 1), ("b", 2)))
        self.fails(Lacking, {"name": "b"}, lambda: load - Load(("b", 3), ("c", 1)))
        self.fails(Lacking, {"name": "a"}, lambda: Load() - Load(("a", 1)))

    def test_multiples(self):
        for counts, load in small_bags():
            for number in (0, 1, 2, 7, 10 ** 45):
                self.same(load * number, bag([count * number for count in counts]))
                self.same(number * load, bag([count * number for count in counts]))
            self.same(load, bag(counts))
        self.same((Load(("a", 3)) * 0).pairs, ())

    def test_the_empty_load(self):
        load, none = Load(("a", 2)), Load()
        self.same([load + none, none + load, load - none, load | none, load & none, none & load, load - load],
                  [load, load, load, load, none, none, none])


class InPlace(Case):
    def test_they_give_the_same_and_change_nothing(self):
        forms = [(operator.iadd, operator.add), (operator.isub, operator.sub), (operator.ior, operator.or_),
                 (operator.iand, operator.and_)]
        for in_place, plain in forms:
            one, other = Load(("a", 2), ("b", 3)), Load(("a", 1), ("b", 1))
            self.same(in_place(one, other), plain(one, other))
            self.same([one, other], [Load(("a", 2), ("b", 3)), Load(("a", 1), ("b", 1))])

    def test_as_statements(self):
        load = kept = Load(("a", 2))
        load += Load(("b", 1))
        self.same([str(load), str(kept)], ["2 a, 1 b", "2 a"])
        load -= Load(("a", 1))
        self.same([str(load), str(kept)], ["1 a, 1 b", "2 a"])
        load |= Load(("b", 5))
        load *= 3
        self.same([str(load), str(kept)], ["3 a, 15 b", "2 a"])
        load &= kept
        self.same([str(load), str(kept)], ["2 a", "2 a"])
        number = 2
        number *= kept
        self.same(number, Load(("a", 4)))

    def test_their_errors(self):
        load = Load(("a", 2))
        for form in (operator.iadd, operator.isub, operator.ior, operator.iand):
            self.fails(NotALoad, {"value": 3}, form, load, 3)
        self.fails(Lacking, {"name": "b"}, operator.isub, load, Load(("b", 1)))
        self.fails(InvalidNumber, {"value": True}, operator.imul, load, True)
        self.same(load, Load(("a", 2)))


class WrongOperands(Case):
    FORMS = (operator.add, operator.sub, operator.or_, operator.and_, operator.le, operator.lt, operator.ge,
             operator.gt)

    def test_what_is_no_load(self):
        for load in (Load(), Load(("a", 1))):
            for value in STRANGE + (Anything(), nested(30), (("a", 1),), "1 a", 0, 1):
                for form in self.FORMS:
                    self.fails(NotALoad, {"value": value}, form, load, value)

    def test_what_is_no_number(self):
        load = Load(("a", 1))
        wrong = (-1, -10 ** 45, True, False, None, "2", b"2", (2,), [2], {}, Load(), load, object(), nested(30))
        for value in wrong:
            self.fails(InvalidNumber, {"value": value}, operator.mul, load, value)
            self.fails(InvalidNumber, {"value": value}, operator.mul, Load(), value)
        for value in (-1, True, False, None, "2", (2,), [2], {}, object()):
            self.fails(InvalidNumber, {"value": value}, operator.mul, value, load)


class Comparisons(Case):
    def test_all_small_loads(self):
        for (left, one), (right, other) in itertools.product(small_bags(), repeat=2):
            within = all(a <= b for a, b in zip(left, right))
            around = all(a >= b for a, b in zip(left, right))
            self.assertIs(one <= other, within)
            self.assertIs(one >= other, around)
            self.assertIs(one < other, within and left != right)
            self.assertIs(one > other, around and left != right)

    def test_loads_that_stand_beside_one_another(self):
        one, other = Load(("a", 2), ("b", 1)), Load(("a", 1), ("b", 2))
        self.assertEqual([one <= other, one < other, one >= other, one > other], [False] * 4)
        one, other = Load(("a", 1)), Load(("b", GREAT))
        self.assertEqual([one <= other, one < other, one >= other, one > other], [False] * 4)

    def test_great_counts(self):
        one, other = Load(("a", GREAT)), Load(("a", GREAT + 1))
        self.assertEqual([one <= other, one < other, one >= other, one > other], [True, True, False, False])


if __name__ == "__main__":
    unittest.main()
