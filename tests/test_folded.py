"""Promise 10: webs in which one handler does the work of some."""

import itertools
import random
import unittest

from everyload.errors import InvalidIndexes, NotAWeb, TooManyStates
from everyload.folding import as_one, folded, least
from everyload.loads import Load
from everyload.samples import copier, dealer, every, sample_web
from everyload.webs import Web
from tests.support import STRANGE, Anything, Case, nested
from tests.test_come_to import NO_WEBS, long_way
from tests.webs import one_by_one, ring, some_load, some_web

GREAT = 10 ** 45
FIVE = Web(every(("a",), 2, "b"), every(("b",), 3, "c"), dealer("c", ("d", "e")), copier("d", Load(("e", 2))),
           dealer("e", ("x", "y", "x")))


def all_places(many):
    for size in range(1, many + 1):
        yield from itertools.combinations(range(many), size)


class Folded(Case):
    def agrees(self, web, places):
        told = folded(web, places)
        self.assertIs(type(told), Web)
        inner = Web(*[web.handlers[place] for place in places])
        one = least(as_one(inner, inner.kinds))
        handlers = list(web.handlers)
        handlers[places[0]] = one
        self.same(told.handlers, tuple(handler for place, handler in enumerate(handlers) if place not in places[1:]))
        self.same(one.kinds, tuple(kind for place in places for kind in web.handlers[place].kinds))
        return told

    def test_any_webs(self):
        source = random.Random(91)
        many = 0
        while many < 60:
            web = some_web(source, size=source.randint(1, 3), density=0.3, walks=1)
            for places in all_places(len(web)):
                try:
                    told = self.agrees(web, places)
                except TooManyStates:
                    continue
                many += 1
                for most in (3, 10, 10 ** 9, GREAT):
                    load = some_load(source, web.kinds, most)
                    self.same(told.run(load).outs, web.run(load).outs)
                    if most == 3:
                        self.same(one_by_one(told, load, told.start)[1], one_by_one(web, load, web.start)[1])

    def test_all_places_of_five(self):
        for places in all_places(5):
            told = self.agrees(FIVE, places)
            self.same([len(told), told.outs], [6 - len(places), ("x", "y")])
            self.same(sorted(told.kinds), sorted(FIVE.kinds))
            for load in (Load(("a", 25)), Load(*[(kind, 7) for kind in "abcde"]), Load(("a", GREAT), ("d", GREAT + 1))):
                self.same(told.run(load).outs, FIVE.run(load).outs)

    def test_the_sample(self):
        web = sample_web()
        self.same([len(handler) for handler in folded(web, (0, 1)).handlers], [2, 3, 2])
        self.same([len(handler) for handler in folded(places=(2, 3), web=web).handlers[:2]], [2, 1])
        told = folded(web, (0, 1))
        self.same(str(told.handlers[0]),
                  "takes order cut\n0 order 1 sends 2 piece\n0 cut 0 sends 2 piece\n1 order 0 sends 1 paint\n"
                  "1 cut 1 sends 2 piece")
        self.same(told.handlers[1:], web.handlers[2:])
        self.same(web, sample_web())

    def test_one_place(self):
        web = Web(dealer("a", ("x", "x")), ring("b", [{"b": 1, "x": 1}, {}]))
        self.same(folded(web, (0,)).handlers, (copier("a", Load(("x", 1))), web.handlers[1]))
        # What `b` sends to itself is taken at once.
        self.same(str(folded(web, (1,)).handlers[1]), "takes b\n0 b 0 sends 1 x")

    def test_the_one_stands_at_the_first_place(self):
        told = folded(FIVE, (1, 3))
        self.same([handler.kinds for handler in told.handlers], [("a",), ("b", "d"), ("c",), ("e",)])
        self.same(told.kinds, ("a", "b", "d", "c", "e"))

    def test_great_counts(self):
        web = Web(copier("a", Load(("b", GREAT))), ring("b", [{"b": 1}] * 599 + [{"x": 1}]), every(("x",), 7, "y"))
        told = folded(web, (0, 1))
        self.same(told.handlers[0].rows, (((0, (("x", GREAT),)), (0, (("x", 1),))),))
        self.same(told.run(Load(("a", GREAT))).outs, web.run(Load(("a", GREAT))).outs)

    def test_six_hundred_and_one_more(self):
        self.same(len(folded(long_way(300, 1), (0, 1))), 1)
        self.fails(TooManyStates, {"limit": 600}, folded, long_way(301, 1), (0, 1))
        web = Web(every(("a",), 24, "x"), copier("c", Load()), every(("b",), 25, "y"))
        self.same([len(handler) for handler in folded(web, (0, 2)).handlers], [600, 1])
        web = Web(every(("a",), 25, "x"), copier("c", Load()), every(("b",), 25, "y"))
        self.fails(TooManyStates, {"limit": 600}, folded, web, (0, 2))
        self.fails(TooManyStates, {"limit": 600}, folded, web, (0, 1, 2))
        self.same(len(folded(web, (0, 1))), 2)

    def test_the_handlers_alone(self):
        # Of the whole web few rests are come to by `c`; of these two alone, for all of their kinds, too many.
        web = Web(every(("a",), 600, "x"), every(("b",), 600, "y"), copier("c", Load(("a", 600), ("b", 600))))
        self.same(len(as_one(web, ("c",))), 1)
        self.fails(TooManyStates, {"limit": 600}, folded, web, (0, 1))


class Refused(Case):
    def test_no_webs(self):
        for value in NO_WEBS:
            self.fails(NotAWeb, {"value": value}, folded, value, None)

    def test_no_places(self):
        for places in STRANGE[:6] + (0, 1, "0", [0], [0, 1], {0: 1}, iter((0,)), (), range(2), Load(), Anything()):
            self.fails(InvalidIndexes, {"index": None}, folded, FIVE, places)
        for wrong in STRANGE[:6] + (-1, 5, GREAT, -GREAT, "0", (0,), [0], Anything(), nested(29), Load(), FIVE):
            self.fails(InvalidIndexes, {"index": 0}, folded, FIVE, (wrong,))
            self.fails(InvalidIndexes, {"index": 0}, folded, FIVE, (wrong, 1, 1))
            self.fails(InvalidIndexes, {"index": 2}, folded, FIVE, (0, 3, wrong, 2))
        self.fails(InvalidIndexes, {"index": 0}, folded, Web(FIVE.handlers[4]), (1,))

    def test_places_that_do_not_ascend(self):
        for places, index in (((0, 0), 1), ((1, 0), 1), ((0, 2, 1), 2), ((0, 1, 1, 2), 2), ((3, 4, 0), 2),
                              ((0, 1, 2, 3, 4, 5), 5), ((0, 1, 2, 3, 4, 4), 5), ((4, 3, 2, 1, 0, 9, 9), 1)):
            self.fails(InvalidIndexes, {"index": index}, folded, FIVE, places)

    def test_the_order_of_errors(self):
        web = Web(every(("a",), 25, "x"), every(("b",), 25, "y"))
        self.fails(InvalidIndexes, {"index": 2}, folded, web, (0, 1, 2))
        self.fails(TooManyStates, {"limit": 600}, folded, web, (0, 1))


if __name__ == "__main__":
    unittest.main()
