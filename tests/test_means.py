"""Sums, promise 4: means, and what they say of great loads."""

import math
import random
import unittest
from fractions import Fraction

from everyload.errors import NotAWeb
from everyload.handlers import Handler
from everyload.loads import Load
from everyload.samples import copier, dealer, every, sample_web
from everyload.sums import means
from everyload.webs import Web
from tests.support import Case
from tests.test_come_to import NO_WEBS
from tests.webs import load_of, once, one_by_one, some_load, some_rest, some_web

GREAT = 10 ** 45


class Means(Case):
    def has_form(self, web):
        told = means(web)
        self.same([kind for kind, _ in told], list(web.kinds))
        self.same([type(row) for _, row in told], [tuple] * len(web.kinds))
        for _, row in told:
            self.same(tuple(out for out, _ in row), web.outs)
            for _, (over, under) in row:
                self.assertIs(type(over), int)
                self.assertGreater(under, 0)
                self.same(math.gcd(over, under), 1)
        return {kind: {out: Fraction(*mean) for out, mean in row} for kind, row in told}

    def test_any_webs(self):
        # However great the load, from all rests, what goes out differs from what the means tell by no more than this.
        source = random.Random(231)
        for _ in range(80):
            web = some_web(source, size=3)
            told = self.has_form(web)
            for most in (5, 10 ** 6, GREAT):
                load = some_load(source, web.kinds, most)
                outs = web.run(load, rest=some_rest(source, web)).outs
                for out in web.outs:
                    mean = sum(count * told[kind][out] for kind, count in load.pairs)
                    self.assertLess(abs(outs[out] - mean), 10 ** 5)

    def test_one_by_one(self):
        source = random.Random(232)
        for _ in range(40):
            web = some_web(source, handlers=3, kinds=3, size=3)
            told = self.has_form(web)
            for kind in web.kinds:
                # From where so many messages lead, as many more lead back, or nearly.
                rest = one_by_one(web, Load((kind, 60)), web.start)[0]
                outs, many = load_of({}), 0
                behind = None
                while behind != rest:
                    behind, more, _ = one_by_one(web, Load((kind, 1)), rest if behind is None else behind)
                    outs, many = outs + more, many + 1
                for out in web.outs:
                    self.same(Fraction(outs[out], many), told[kind][out])

    def test_the_sample(self):
        self.same(means(sample_web()), (
            ("order", (("label", (3, 5)),)), ("cut", (("label", (4, 5)),)), ("piece", (("label", (2, 5)),)),
            ("paint", (("label", (2, 5)),)), ("box", (("label", (6, 5)),))))

    def test_no_outs(self):
        self.same(means(Web(every(("a", "b"), 3, "c"), copier("c", Load()))), (("a", ()), ("b", ()), ("c", ())))

    def test_naught(self):
        # What is sent on the way only is nothing in the mean; what an unreachable state sends is no out.
        web = Web(Handler.read("takes a b\n0 a 1 sends 5 x\n0 b 0\n1 a 1\n1 b 1\n2 a 2 sends 1 z\n2 b 2"))
        self.same(means(web=web), (("a", (("x", (0, 1)),)), ("b", (("x", (0, 1)),))))

    def test_several_outs_ascend(self):
        web = Web(dealer("a", ("z", "y", "z", "b")), copier("b", Load(("x", GREAT), ("y", 1))))
        self.same(means(web), (("a", (("x", (GREAT // 4, 1)), ("y", (1, 2)), ("z", (1, 2)))),
                               ("b", (("x", (GREAT, 1)), ("y", (1, 1)), ("z", (0, 1))))))

    def test_near_the_end(self):
        web = Web(once("a", 600, {"b": 1}), once("b", 600, {"a": 600 * 600 - 1, "x": GREAT}))
        self.same(means(web), (("a", (("x", (GREAT, 1)),)), ("b", (("x", (600 * GREAT, 1)),))))

    def test_no_webs(self):
        for value in NO_WEBS:
            self.fails(NotAWeb, {"value": value}, means, value)


if __name__ == "__main__":
    unittest.main()
