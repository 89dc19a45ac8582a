"""Promise 5: what running is built of: rings of states, inverses of matrices, heaps, leaps and searches."""

import random
import unittest

from everyload.heaps import push, take_least
from everyload.leaps import Leaps
from everyload.matrices import inverse
from everyload.plans import Plan
from everyload.samples import copier, dealer, every, sample_web
from everyload.searches import Search
from everyload.loads import Load
from everyload.tracks import Track
from everyload.webs import Web
from tests.support import Case
from tests.webs import once, one_by_one, some_load, some_rest, some_web


class Tracks(Case):
    def test_all_counts(self):
        source = random.Random(121)
        for many in list(range(1, 8)) * 8 + [40]:
            follows = [source.randrange(many) for _ in range(many)]
            track = Track(follows)
            for state in range(many):
                behind = state
                for count in range(3 * many):
                    self.same(track.led(state, count), behind)
                    behind = follows[behind]

    def test_far(self):
        track = Track([1, 2, 3, 4, 2, 0])
        for state, count, behind in ((0, 1, 1), (0, 2, 2), (5, 2, 1), (5, 3, 2), (0, 2 + 3 * 10 ** 60, 2),
                                     (5, 4 + 3 * 10 ** 60, 3), (4, 10 ** 60, 2)):
            self.same(track.led(state, count), behind)


class Matrices(Case):
    def test_any_matrices(self):
        source = random.Random(122)
        for many in range(1, 9):
            for _ in range(30):
                rows = [[-source.randint(0, 9) for _ in range(many)] for _ in range(many)]
                for at, row in enumerate(rows):
                    row[at] = source.randint(1, 9) - sum(row) + row[at]
                number, others = inverse(rows)
                self.assertGreater(number, 0)
                told = [[sum(one * other for one, other in zip(row, column)) for column in zip(*others)] for row in rows]
                self.same(told, [[number if at == to else 0 for to in range(many)] for at in range(many)])

    def test_leading_minors(self):
        self.same(inverse([[1]]), (1, [[1]]))
        self.same(inverse([[2, -1], [-3, 2]]), (1, [[2, 1], [3, 2]]))
        for rows in ([[0]], [[-1]], [[2, -1], [-4, 2]], [[2, -1], [-5, 2]], [[0, -1], [-1, 5]],
                     [[1, 0, 0], [0, 1, -1], [0, -1, 1]]):
            self.same(inverse(rows), None)


class Heaps(Case):
    def test_any_order(self):
        source = random.Random(123)
        for many in list(range(20)) + [300]:
            items = [(source.randrange(50), at) for at in range(many)]
            heap, taken = [], []
            for item in items:
                push(heap, item)
                if source.random() < 0.3:
                    self.same(heap[0], min(heap))
                    taken.append(take_least(heap))
            left = sorted(set(items) - set(taken))
            self.same([take_least(heap) for _ in left], left)
            self.same(heap, [])


class Groups(Case):
    def test_the_sample(self):
        web = sample_web()
        told = [tuple(web.kinds[at] for at in group) for group in Plan(web.handlers).groups]
        self.same(told, [("order",), ("cut",), ("piece",), ("paint", "box")])

    def test_any_webs(self):
        source = random.Random(124)
        for _ in range(60):
            web = some_web(source)
            groups = Plan(web.handlers).groups
            self.same(sorted(at for group in groups for at in group), list(range(len(web.kinds))))
            place = {web.kinds[at]: number for number, group in enumerate(groups) for at in group}
            for handler in web.handlers:
                for kind in handler.kinds:
                    for state in handler.reachable:
                        for name in handler.step(state, kind)[1].names:
                            self.assertLessEqual(place[kind], place.get(name, len(groups)))


class LeapsAndSearches(Case):
    def begun(self, web, load, rest):
        """For a web of one group: what its leaps and its search tell, and what is taken."""
        plan = Plan(web.handlers)
        if len(plan.groups) > 1:
            return None
        leaps = Leaps(plan, plan.groups[0])
        waiting = [load[kind] for kind in web.kinds]
        taken = one_by_one(web, load, rest)[2]
        return leaps.least_counts(rest, waiting), Search(leaps, rest, waiting), [taken[kind] for kind in web.kinds]

    def test_any_webs_of_one_group(self):
        source = random.Random(125)
        many = 0
        while many < 60:
            web = some_web(source, handlers=3, kinds=4, size=3, density=0.5, most=1, walks=1)
            rest, load = some_rest(source, web), some_load(source, web.kinds, 30)
            told = self.begun(web, load, rest)
            if told is not None:
                many += 1
                least, search, taken = told
                self.assertTrue(all(one <= other for one, other in zip(least, taken)))
                self.same(search.look(10 ** 6, [0] * len(taken)), taken)

    def test_leaps_are_far(self):
        web = Web(every(("a",), 30, "b"), once("b", 30, {"a": 899}))
        least, search, taken = self.begun(web, Load(("a", 1000)), (0, 0))
        self.same(least, taken)
        self.same(search.look(1, [0, 0]), taken)

    def test_no_choice_is_looked_at_twice(self):
        web = Web(dealer("a", ("b", "x", "x")), every(("b",), 4, "a"), copier("c", Load()))
        plan = Plan(web.handlers)
        group = [group for group in plan.groups if len(group) > 1][0]
        search = Search(Leaps(plan, group), (0, 0, 0), [0, 0, 0])
        seen = []
        while search.heap:
            self.same(search.heap[0], min(search.heap))
            seen.append(search.heap[0])
            search.look(1, [10 ** 9, 10 ** 9])
        self.same(len(seen), 12)
        self.same(len({places for _, places in seen}), 12)
        self.same([total for total, _ in seen], sorted(total for total, _ in seen))
        self.same(search.look(5, [0, 0]), None)


if __name__ == "__main__":
    unittest.main()
