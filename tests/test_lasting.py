"""Lasting, promises 5 and 6: lasting rests, and what loads do to them."""

import itertools
import math
import random
import unittest

from everyload.errors import InvalidRest, NotALoad, NotAWeb, NotLasting, UnknownKind
from everyload.handlers import Handler
from everyload.lasting import between, factors, idle, is_lasting, lasting_count, period, same_effect, some_lasting
from everyload.lasting import undoing
from everyload.loads import Load
from everyload.samples import copier, dealer, every, sample_web
from everyload.webs import Web
from tests.support import STRANGE, Anything, Case, nested
from tests.tables import meter
from tests.test_come_to import NO_WEBS, WEB
from tests.test_worth import NO_LOADS
from tests.webs import once, one_by_one, some_load, some_web

GREAT = 10 ** 45
NO_RESTS = STRANGE + ((0,), (0, 0, 0), (3, 0), (0, 2), (0, True), (0, -1), (0, None), [0, 0], Anything(), nested(30))


class Effects:
    """What point 14 says of a web of few rests, by single messages."""

    def __init__(self, web):
        self.web = web
        self.rests = list(itertools.product(*[handler.reachable for handler in web.handlers]))
        self.steps = {(rest, kind): one_by_one(web, Load((kind, 1)), rest)[0]
                      for rest in self.rests for kind in web.kinds}
        self.lasting = [rest for rest in self.rests if self.lasts(rest)]

    def lasts(self, rest):
        """Whether one message of each kind, and then some others, lead back."""
        first = self.led(rest, Load(*[(kind, 1) for kind in self.web.kinds]))
        found, waiting = set(), [first]
        while waiting:
            at = waiting.pop()
            if at not in found:
                found.add(at)
                waiting.extend(self.steps[(at, kind)] for kind in self.web.kinds)
        return rest in found

    def led(self, rest, load):
        for kind, count in load.pairs:
            for _ in range(count):
                rest = self.steps[(rest, kind)]
        return rest

    def is_idle(self, load):
        return all(self.led(rest, load) == rest for rest in self.lasting)

    def orders(self, many):
        """How many effects come to nothing when they come so many times over."""
        first = self.lasting[0]
        loads = {first: Load()}
        for rest in self.lasting * len(self.lasting):
            for kind in self.web.kinds:
                if rest in loads and self.steps[(rest, kind)] not in loads:
                    loads[self.steps[(rest, kind)]] = loads[rest] + Load((kind, 1))
        return sum(self.led(first, load * many) == first for load in loads.values())


def some_small_web(source, most, **told):
    while True:
        web = some_web(source, **told)
        if math.prod(len(handler.reachable) for handler in web.handlers) <= most:
            return web


class AnyWebs(Case):
    def test_lasting_rests(self):
        source = random.Random(241)
        seen = set()
        for _ in range(150):
            web = some_small_web(source, 150, size=source.randint(1, 4), density=source.choice((0.2, 0.5)))
            known = Effects(web)
            self.same(lasting_count(web), len(known.lasting))
            self.assertIn(some_lasting(web), known.lasting)
            for rest in known.rests:
                self.assertIs(is_lasting(web, rest), rest in known.lasting)
            told = factors(web)
            self.assertIs(type(told), tuple)
            self.assertTrue(all(number > 1 for number in told))
            self.assertTrue(all(other % one == 0 for one, other in zip(told, told[1:])))
            self.same(math.prod(told), len(known.lasting))
            for many in range(1, 7):
                self.same(known.orders(many), math.prod(math.gcd(many, number) for number in told))
            seen.add(told)
        self.assertTrue(any(len(told) > 1 for told in seen))
        self.assertIn((), seen)

    def test_loads(self):
        source = random.Random(242)
        for _ in range(100):
            web = some_small_web(source, 150, size=source.randint(1, 4))
            known = Effects(web)
            for kind in web.kinds:
                many = period(web, kind)
                self.same([known.is_idle(Load((kind, count))) for count in range(1, many + 1)],
                          [False] * (many - 1) + [True])
            for _ in range(6):
                one, other = some_load(source, web.kinds, 8), some_load(source, web.kinds, 8)
                self.assertIs(idle(web, one), known.is_idle(one))
                same = all(known.led(rest, one) == known.led(rest, other) for rest in known.lasting)
                self.assertIs(same_effect(web, one, other), same)
                self.assertTrue(known.is_idle(one + undoing(web, one)))
                rest, end = source.choice(known.lasting), source.choice(known.lasting)
                self.same(known.led(rest, between(web, rest, end)), end)

    def test_great_loads(self):
        source = random.Random(243)
        for _ in range(100):
            web = some_web(source, size=source.randint(1, 6))
            rest = some_lasting(web)
            load = some_load(source, web.kinds, GREAT)
            self.assertIs(idle(web, load), web.run(load, rest=rest).rest == rest)
            self.assertTrue(idle(web, load * lasting_count(web)))
            back = undoing(web, load)
            self.same(web.run(load + back, rest=rest).rest, rest)
            other = web.run(load, rest=rest).rest
            self.same(web.run(back, rest=other).rest, rest)
            self.assertTrue(same_effect(web, load, between(web, rest, other)))
            self.assertTrue(is_lasting(web, other))


class KnownWebs(Case):
    def test_the_sample(self):
        web = sample_web()
        self.same([lasting_count(web), factors(web), period(web, "order"), period(web, "box")], [10, (10,), 10, 5])
        self.same([period(kind=kind, web=web) for kind in ("cut", "piece", "paint")], [5, 5, 5])
        self.same([is_lasting(web, web.start), is_lasting(rest=(0, 0, 2, 1), web=web)], [False, True])
        self.same(idle(web, Load.read("4 box, 2 order")), True)
        self.same(same_effect(web, Load.read("1 cut"), Load.read("2 paint")), True)
        self.same(same_effect(other=Load.read("1 cut"), web=web, one=Load.read("1 paint")), False)
        self.same(idle(web, Load.read("1 order")), False)

    def test_rings_side_by_side(self):
        web = Web(every(("a",), 4, "x"), every(("b",), 6, "x"), every(("c",), 10, "x"))
        self.same([lasting_count(web), factors(web)], [240, (2, 2, 60)])
        self.same([period(web, kind) for kind in "abc"], [4, 6, 10])
        self.same(str(between(web, (3, 5, 0), (1, 5, 9))), "2 a, 9 c")
        self.same([is_lasting(web, (3, 5, 9)), is_lasting(web, (0, 0, 0))], [True, True])
        web = Web(Handler(*meter(("a", "b", "c"), (2, 3, 5), 30)), every(("d",), 7, "x"))
        self.same([lasting_count(web), factors(web)], [210, (210,)])
        self.same([period(web, kind) for kind in "abcd"], [15, 10, 6, 7])

    def test_one_lasting_rest(self):
        for web in (Web(copier("a", Load())), Web(copier("a", Load(("b", GREAT))), copier("b", Load(("x", 1)))),
                    Web(Handler.read("takes a\n0 a 1\n1 a 2 sends 1 x\n2 a 2")),
                    Web(once("a", 600, {"b": 1}), once("b", 600, {"a": 359999}))):
            rest = some_lasting(web)
            self.same([lasting_count(web), factors(web), is_lasting(web, rest)], [1, (), True])
            for kind in web.kinds:
                self.same([period(web, kind), idle(web, Load((kind, GREAT)))], [1, True])
            self.same(between(web, rest, rest), Load())
            self.same(undoing(web, Load((web.kinds[0], 7))), Load())

    def test_the_empty_load(self):
        for web in (sample_web(), WEB):
            self.same([idle(web, Load()), same_effect(web, Load(), Load()), undoing(web, Load())], [True, True, Load()])

    def test_states_that_last_by_themselves_but_not_together(self):
        # Each state of each handler comes again, but not all rests do: it is a sandpile of three places.
        web = Web(once("a", 2, {"b": 1}), once("b", 2, {"a": 1, "c": 1}), once("c", 2, {"b": 1}))
        known = Effects(web)
        self.same([lasting_count(web), len(known.lasting), len(known.rests)], [4, 4, 8])
        self.same([is_lasting(web, rest) for rest in known.rests], [rest in known.lasting for rest in known.rests])
        self.same(factors(web), (4,))

    def test_far_too_many_to_be_listed(self):
        web = Web(*[every((kind,), 600, "x") for kind in "abcde"])
        self.same([lasting_count(web), factors(web)], [600 ** 5, (600,) * 5])
        self.same(between(web, (599, 0, 1, 2, 3), (0, 599, 1, 2, 3)), Load(("a", 1), ("b", 599)))
        chain = [every((kind,), 600, out) for kind, out in ("ab", "bc", "cd", "de")]
        web = Web(*chain, every(("e",), 600, "x"))
        self.same([lasting_count(web), factors(web), period(web, "a"), period(web, "e")],
                  [600 ** 5, (600 ** 5,), 600 ** 5, 600])
        self.same([idle(web, Load(("a", 600 ** 5 * GREAT))), idle(web, Load(("a", 600 ** 5 * GREAT + 1)))], [True, False])
        rest, other = (5, 4, 3, 2, 1), (1, 2, 3, 4, 5)
        self.same(web.run(between(web, rest, other), rest=rest).rest, other)
        web = Web(*chain, once("e", 600, {"a": 600 ** 5 - 10 ** 6, "x": 1}))
        self.same([lasting_count(web), factors(web)], [10 ** 6, (10 ** 6,)])
        rest = some_lasting(web)
        self.same([is_lasting(web, rest), is_lasting(web, web.start)], [True, False])
        other = web.run(Load(("a", 123456)), rest=rest).rest
        self.assertTrue(same_effect(web, between(web, rest, other), Load(("a", 123456))))

    def test_eight_kinds_of_one_handler(self):
        kinds = tuple("abcdefgh")
        web = Web(Handler(*meter(kinds, (1, 7, 11, 13, 17, 23, 31, 599), 600)))
        self.same([lasting_count(web), factors(web), period(web, "h"), period(web, "a")], [600, (600,), 600, 600])
        self.same(web.run(between(web, (17,), (3,)), rest=(17,)).rest, (3,))


class Refused(Case):
    def test_no_webs(self):
        for value in NO_WEBS:
            for call in (lasting_count, factors, some_lasting):
                self.fails(NotAWeb, {"value": value}, call, value)
            for call in (is_lasting, idle, period, undoing):
                self.fails(NotAWeb, {"value": value}, call, value, None)
            for call in (same_effect, between):
                self.fails(NotAWeb, {"value": value}, call, value, None, None)

    def test_no_loads(self):
        for value in NO_LOADS:
            for call in (idle, undoing):
                self.fails(NotALoad, {"value": value}, call, WEB, value)
            self.fails(NotALoad, {"value": value}, same_effect, WEB, value, None)
            self.fails(NotALoad, {"value": value}, same_effect, WEB, Load(), value)

    def test_other_kinds(self):
        for text, name in (("1 x", "x"), ("1 a, 1 d, 1 e", "d"), ("2 b, 1 b1", "b1")):
            load = Load.read(text)
            for call in (idle, undoing):
                self.fails(UnknownKind, {"value": name}, call, WEB, load)
            self.fails(UnknownKind, {"value": name}, same_effect, WEB, load, None)
            self.fails(UnknownKind, {"value": name}, same_effect, WEB, Load(("a", 1)), load)
        for value in STRANGE + ("x", "d", "A", "ab", ("a",), Anything(), nested(29), Load(("a", 1))):
            self.fails(UnknownKind, {"value": value}, period, WEB, value)

    def test_no_rests(self):
        for value in NO_RESTS:
            self.fails(InvalidRest, {"value": value}, is_lasting, WEB, value)
            self.fails(InvalidRest, {"value": value}, between, WEB, value, None)
            self.fails(InvalidRest, {"value": value}, between, WEB, (0, 0), value)

    def test_rests_that_do_not_last(self):
        web, rest = sample_web(), (0, 0, 2, 1)
        self.fails(NotLasting, {"rest": (0, 0, 0, 0)}, between, web, (0, 0, 0, 0), None)
        self.fails(NotLasting, {"rest": (0, 0, 0, 0)}, between, web, (0, 0, 0, 0), rest)
        self.fails(NotLasting, {"rest": (0, 0, 0, 0)}, between, web, rest, (0, 0, 0, 0))
        self.fails(InvalidRest, {"value": (0, 0, 3, 1)}, between, web, rest, (0, 0, 3, 1))
        self.fails(InvalidRest, {"value": (2, 0, 0, 0)}, between, web, (2, 0, 0, 0), (0, 0, 0, 0))

    def test_states_that_are_not_reachable(self):
        web = Web(Handler.read("takes a\n0 a 0\n1 a 1"))
        self.fails(InvalidRest, {"value": (1,)}, is_lasting, web, (1,))
        self.fails(InvalidRest, {"value": (1,)}, between, web, (0,), (1,))


if __name__ == "__main__":
    unittest.main()
