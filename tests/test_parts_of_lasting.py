"""Promises of sums, lasting and meddling: what they are built of: normal forms, rounds, climbs and halves."""

import itertools
import math
import random
import unittest

from everyload.climbs import Climb
from everyload.effects import MOST_ADDED, drained_by_all, effects_of
from everyload.halves import Halves
from everyload.handlers import Handler
from everyload.samples import copier, dealer, every, sample_web
from everyload.loads import Load
from everyload.smith import smith_numbers
from everyload.webs import Web
from tests.support import Case
from tests.tables import meter
from tests.webs import once, some_handler, some_web


def determinant(rows):
    if not rows:
        return 1
    return sum((-1) ** at * row[0] * determinant([other[1:] for other in rows[:at] + rows[at + 1:]])
               for at, row in enumerate(rows))


def shared_by_minors(rows, size):
    """The greatest number that divides all minors of this size."""
    places = list(itertools.combinations(range(len(rows)), size))
    minors = [determinant([[rows[at][to] for to in columns] for at in own]) for own in places for columns in places]
    return math.gcd(*minors)


class Smith(Case):
    def test_any_matrices(self):
        source = random.Random(281)
        many = 0
        while many < 150:
            size = source.randint(1, 4)
            most = source.choice((2, 6, 10 ** 20))
            rows = [[source.choice((0, source.randint(-most, most))) for _ in range(size)] for _ in range(size)]
            if determinant(rows) == 0:
                continue
            many += 1
            numbers = smith_numbers(rows)
            self.same([type(number) for number in numbers], [int] * size)
            for at in range(1, size + 1):
                self.same(math.prod(numbers[:at]), shared_by_minors(rows, at))

    def test_some(self):
        self.same(smith_numbers([[4, 0], [0, 6]]), [2, 12])
        self.same(smith_numbers([[0, 1], [1, 0]]), [1, 1])
        self.same(smith_numbers([[2, 0, 0], [0, 3, 0], [0, 0, 5]]), [1, 1, 30])
        self.same(smith_numbers([[6, 0, 0], [0, 10, 0], [0, 0, 15]]), [1, 30, 30])
        self.same(smith_numbers([[-7]]), [7])


class Rounds(Case):
    def test_what_lies_on_one_handler(self):
        source = random.Random(282)
        for _ in range(60):
            web = some_web(source)
            effects = effects_of(web)
            self.assertIs(effects_of(web), effects)
            for handler, side in zip(web.handlers, effects.sides):
                for state, other in itertools.product(side.places, repeat=2):
                    lengths = [web.plan.lengths[at] for at in side.own]
                    counts = [count % each for count, each in zip(side.between(state, other), lengths)]
                    load = Load(*[(kind, count) for kind, count in zip(handler.kinds, counts) if count])
                    self.same(handler.after(load, state=state)[0], other)
            self.assertTrue(all(effects.is_idle(row) for row in effects.grid))
            self.assertTrue(effects.is_idle(effects.whole))
            self.assertTrue(all(1 <= count <= each for count, each in zip(effects.whole, effects.periods)))

    def test_few_rounds_take_of_all_kinds(self):
        web = Web(*[every((kind,), 600, out) for kind, out in ("ab", "bc", "cd", "de", "ex")])
        self.same(drained_by_all(web.plan.drains), [600, 599, 599, 599, 599])
        web = Web(once("a", 3, {"b": 5}), every(("b",), 2, "x"))
        self.same(drained_by_all(web.plan.drains), [3, 1])
        self.same(MOST_ADDED, 1000)

    def test_where_it_would_take_too_long(self):
        web = Web(once("a", 600, {"b": 1}), once("b", 600, {"a": 359999}))
        self.assertTrue(any(count < 1 for count in drained_by_all(web.plan.drains)))
        self.same(effects_of(web).whole, [1, 1])
        web = Web(once("a", 600, {"b": 1}), once("b", 600, {"a": 359993}))
        effects = effects_of(web)
        self.same([effects.number, effects.is_idle(effects.whole), min(effects.whole) > 0], [7, True, True])


class Climbs(Case):
    def test_the_greatest_worths(self):
        # One kind goes round three places and loses by that, the other one leads from place 1 to place 3.
        climb = Climb([[1, 2, 0, 3], [None, 3, None, 3]], [[5, -4, -2, 0], [0, 7, 0, -1]], 0)
        climb.rise_to_top()
        self.same(climb.best, {0: 0, 1: 5, 2: 1, 3: 12})
        self.same([climb.counts_at(climb.marks[place]) for place in range(4)], [[0, 0], [1, 0], [2, 0], [1, 1]])

    def test_fewer_messages_first(self):
        climb = Climb([[1, 1], [0, 1]], [[3, 1], [2, 0]], 0)
        sizes = []
        for bound in range(12):
            climb = Climb([[1, 1], [0, 1]], [[3, 1], [2, 0]], 0)
            size = 0
            while climb.passing_mark(bound) is None and climb.rise():
                size += 1
            mark = climb.passing_mark(bound)
            self.same(sum(climb.counts_at(mark)), size)
            sizes.append(size)
        self.same(sizes, [1, 1, 1, 2, 2, 3, 3, 4, 4, 5, 5, 6])


class HalvesOfHandlers(Case):
    def test_where_both_lead(self):
        source = random.Random(283)
        for _ in range(60):
            kinds = tuple(source.sample("abcd", source.randint(2, 4)))
            handler = some_handler(source, kinds, ["x"], size=3)
            chosen = sorted(source.sample(range(len(kinds)), source.randint(1, len(kinds) - 1)))
            halves = Halves(handler, chosen)
            for half in (halves.one, halves.other):
                for state, way in zip(half.states, half.ways):
                    counts = {kinds[place]: count for place, count in zip(half.places, way) if count}
                    self.same(handler.after(Load(*counts.items()))[0], state)
            for one, row in zip(halves.one.ways, halves.joint):
                for other, joint in zip(halves.other.ways, row):
                    counts = dict(zip([*halves.one.places, *halves.other.places], [*one, *other]))
                    load = Load(*[(kinds[place], count) for place, count in counts.items() if count])
                    self.same(handler.after(load)[0], joint)

    def test_none_that_meddle(self):
        for handler in (every(("a", "b"), 1, "c"), Handler(*meter(("a", "b"), (0, 1), 5))):
            self.same(Halves(handler, [0]).first_parted(), None)
        self.same(Halves(every(("a", "b"), 3, "c"), [1]).first_parted(), [2, 1])


class Caches(Case):
    def test_a_web_is_the_same_behind_all_that_is_asked_of_it(self):
        web = Web(dealer("a", ("b", "c")), every(("b",), 2, "x"), copier("c", Load(("x", 1))))
        effects_of(web)
        self.same([web, str(web)], [Web(*web.handlers), str(Web(*web.handlers))])
        self.same(effects_of(sample_web()).grid, effects_of(sample_web()).grid)


if __name__ == "__main__":
    unittest.main()
