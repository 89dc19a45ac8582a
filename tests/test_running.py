"""Promise 5: what a run tells is what single deliveries in any order come to."""

import itertools
import random
import unittest

from everyload.errors import InvalidRest, NotALoad, UnknownKind
from everyload.handlers import Handler
from everyload.loads import Load
from everyload.samples import copier, dealer, every, sample_web
from everyload.webs import Outcome, Web
from tests.support import STRANGE, Anything, Case, nested
from tests.tables import tail
from tests.webs import PICKS, load_of, one_by_one, once, ring, some_load, some_rest, some_web

GREAT = 10 ** 45


class OneByOne(Case):
    def agrees(self, web, load, rest, seed=0):
        outcome = web.run(load, rest=rest)
        told = (outcome.rest, outcome.outs, outcome.delivered)
        for pick in PICKS:
            self.same(one_by_one(web, load, rest, pick, seed), told)
        self.same(one_by_one(web, load, rest, "any", seed, late=True), told)
        if rest == web.start:
            self.same(web.run(load), outcome)

    def test_any_webs(self):
        source = random.Random(21)
        for seed in range(250):
            web = some_web(source, size=source.randint(1, 6), density=source.choice((0.1, 0.2, 0.4)))
            for rest in (web.start, some_rest(source, web)):
                self.agrees(web, some_load(source, web.kinds, 8), rest, seed)

    def test_webs_that_send_much(self):
        source = random.Random(22)
        for seed in range(60):
            web = some_web(source, handlers=3, kinds=4, size=6, density=0.5, most=4)
            self.agrees(web, some_load(source, web.kinds, 20), some_rest(source, web), seed)

    def test_all_small_loads_from_all_rests(self):
        web = sample_web()
        for rest in itertools.product((0, 1), (0,), (0, 1, 2), (0, 1)):
            for counts in itertools.product(range(3), repeat=5):
                load = load_of(dict(zip(web.kinds, counts)))
                outcome = web.run(load, rest=rest)
                self.same((outcome.rest, outcome.outs, outcome.delivered), one_by_one(web, load, rest))

    def test_to_itself(self):
        for sends in ([{"a": 1}] * 6 + [{}], [{"a": 3}, {}, {}, {"x": 1}], [{}, {"a": 2, "b": 1}, {"b": 2}]):
            web = Web(ring("a", sends), every(("b", "c"), 2, "y"))
            for many, state in itertools.product(range(12), range(len(sends))):
                self.agrees(web, load_of({"a": many, "c": many // 2}), (state, many % 2))

    def test_there_and_back(self):
        web = Web(once("a", 3, {"b": 4, "x": 1}), once("b", 5, {"a": 3, "y": 1}))
        for one, other in itertools.product(range(8), repeat=2):
            for rest in itertools.product(range(3), range(5)):
                self.agrees(web, load_of({"a": one, "b": other}), rest)


    def test_long_ways_into_rings(self):
        for length, states in ((9, 1), (12, 5), (30, 2)):
            kinds, rows = tail(length, states)
            web = Web(Handler(kinds, rows), dealer("s3", ("y", "z")))
            for many in range(0, 50, 3):
                for state in (0, 1, length - 1, length):
                    self.agrees(web, load_of({"a": many, "s3": 1}), (state, 1))


class Telling(Case):
    def test_what_is_told(self):
        outcome = sample_web().run(Load(("order", 5)))
        self.same([outcome.rest, outcome.outs], [(1, 0, 0, 1), Load(("label", 3))])
        self.same(outcome.delivered, Load.read("3 box, 3 cut, 5 order, 3 paint, 6 piece"))
        self.same(repr(outcome), "Outcome(20 delivered)")
        self.assertIs(type(outcome), Outcome)

    def test_the_empty_load(self):
        web = sample_web()
        for rest in (None, (0, 0, 0, 0), (1, 0, 2, 1)):
            outcome = web.run(Load(), rest=rest)
            self.same([outcome.rest, outcome.outs, outcome.delivered], [rest or web.start, Load(), Load()])
            self.same(repr(outcome), "Outcome(0 delivered)")

    def test_sizes_in_texts(self):
        web = Web(copier("a", Load()))
        self.same(repr(web.run(Load(("a", 1)))), "Outcome(1 delivered)")
        self.same(repr(web.run(Load(("a", GREAT)))), f"Outcome({GREAT} delivered)")

    def test_equality(self):
        web = Web(dealer("a", ("x", "y")), copier("b", Load(("x", 1))))
        outcome = web.run(Load(("a", 3)))
        self.assertTrue(outcome == web.run(Load(("a", 2)) + Load(("a", 1))))
        self.assertFalse(outcome != Web.read(str(web)).run(Load(("a", 3))))
        others = [web.run(Load(("a", 1))), web.run(Load(("a", 3)), rest=(1, 0)), web.run(Load(("a", 3), ("b", 1))),
                  Web(dealer("a", ("x", "y")), copier("b", Load())).run(Load(("a", 3), ("b", 1))),
                  Web(dealer("a", ("x", "y"))).run(Load(("a", 3)))]
        for other in others:
            self.assertTrue(outcome != other)
            self.assertFalse(outcome == other)
        # Alike but for one of the three: the rest, what went out, what was delivered.
        plain = Web(dealer("a", ("x", "x"))).run(Load(("a", 1)))
        self.assertTrue(plain != Web(copier("a", Load(("x", 1)))).run(Load(("a", 1))))
        self.assertTrue(plain != Web(dealer("a", ("y", "x"))).run(Load(("a", 1))))
        self.assertTrue(plain != Web(dealer("a", ("x", "x")), copier("b", Load())).run(Load(("a", 1), ("b", 1))))
        for value in STRANGE + (web, (outcome.rest, outcome.outs, outcome.delivered), repr(outcome)):
            self.assertIs(outcome == value, False)
            self.assertIs(outcome != value, True)

    def test_arguments_by_name(self):
        web = sample_web()
        self.same(web.run(load=Load(("box", 1)), rest=None), web.run(Load(("box", 1))))
        self.assertRaises(TypeError, web.run, Load(), (0, 0, 0, 0))

    def test_nothing_is_changed(self):
        web, load, rest = sample_web(), Load(("order", 7)), (1, 0, 2, 1)
        first = web.run(load, rest=rest)
        self.same(web.run(load, rest=rest), first)
        self.same([web, load, rest], [sample_web(), Load(("order", 7)), (1, 0, 2, 1)])

    def test_one_load_behind_the_other(self):
        source = random.Random(23)
        for _ in range(60):
            web = some_web(source)
            one, other = some_load(source, web.kinds, 9), some_load(source, web.kinds, 9)
            first = web.run(one)
            then, both = web.run(other, rest=first.rest), web.run(one + other)
            self.same([both.rest, both.outs], [then.rest, first.outs + then.outs])
            self.same(both.delivered, first.delivered + then.delivered)


class Refused(Case):
    WEB = Web(Handler.read("takes c a\n0 c 2\n0 a 0 sends 1 b\n1 c 0\n1 a 0\n2 c 2\n2 a 2 sends 1 b"),
              every(("d",), 2, "x"))

    def test_no_load(self):
        for value in STRANGE + ("1 a", {"a": 1}, (("a", 1),), sample_web(), Anything(), nested(30)):
            self.fails(NotALoad, {"value": value}, self.WEB.run, value)
            self.fails(NotALoad, {"value": value}, self.WEB.run, value, rest="none")

    def test_unknown_kinds(self):
        for rest in (None, (0, 0), "none"):
            load = Load(("x", 1), ("b", GREAT), ("a", 1), ("d", 1))
            self.fails(UnknownKind, {"value": "b"}, self.WEB.run, load, rest=rest)
            self.fails(UnknownKind, {"value": "aa"}, self.WEB.run, Load(("b", 1), ("aa", 1)), rest=rest)
            self.fails(UnknownKind, {"value": "x"}, self.WEB.run, Load(("x", 1)), rest=rest)

    def test_no_rest(self):
        wrong = [value for value in STRANGE if value is not None]
        wrong += [(0,), (0, 0, 0), [0, 0], (0, 2), (1, 0), (3, 0), (-1, 0), (0, -1), (0, True), (False, 0), ("0", 0),
                  (0, None), (0, (0,)), ((0, 0),), "00", {0: 0, 1: 0}, iter((0, 0)), (0, GREAT), Load(), self.WEB,
                  Anything(), (0, Anything()), (Anything(), 0), nested(30)]
        for rest in wrong:
            self.fails(InvalidRest, {"value": rest}, self.WEB.run, Load(("a", 1)), rest=rest)
            self.fails(InvalidRest, {"value": rest}, self.WEB.run, Load(), rest=rest)

    def test_rests(self):
        for rest in itertools.product((0, 2), (0, 1)):
            self.same(self.WEB.run(Load(), rest=rest).rest, rest)


if __name__ == "__main__":
    unittest.main()
