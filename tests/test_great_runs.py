"""Promise 5: runs of great loads, and runs of many messages."""

import math
import random
import unittest
from unittest import mock

from everyload import running
from everyload.handlers import Handler
from everyload.loads import Load
from everyload.samples import copier, dealer, every, sample_web
from everyload.webs import Web
from tests.support import Case
from tests.tables import meter
from tests.webs import in_bulk, load_of, once, one_by_one, ring, some_load, some_rest, some_web

GREAT = 10 ** 45
# Ways to run: message by message for long, with leaps at once, with looks into the search at once, the usual one.
MANNERS = ((10 ** 9, 1, 1), (0, 10 ** 9, 1), (0, 1, 3), (3, 2, 40), (300, 2000, 200))


def run_as(manner, web, load, rest):
    first, turn, looks = manner
    with mock.patch.multiple(running, FIRST=first, TURN=turn, LOOKS=looks):
        return web.run(load, rest=rest)


def scattered(source, states, count):
    """So many messages, scattered over so many states."""
    sends = [0] * states
    pieces = source.choice((1, 3, 30))
    for _ in range(pieces):
        sends[source.randrange(states)] += count // pieces
    sends[source.randrange(states)] += count % pieces
    return sends


def nearly_endless(source, lengths, less, names="abcde", out="x"):
    """Rings that send to one another in a circle, and by so little less than what would not come to an end."""
    kinds = names[:len(lengths)]
    counts = [max(1, length + source.randint(-3, 3)) for length in lengths[:-1]]
    counts.append(max(0, math.prod(lengths) - less) // math.prod(counts))
    handlers = []
    for at, (length, count) in enumerate(zip(lengths, counts)):
        to = kinds[(at + 1) % len(kinds)]
        sends = scattered(source, length, count)
        handlers.append(ring(kinds[at], [load_of({to: each, out: at}) for each in sends]))
    return Web(*handlers)


class ClosedForms(Case):
    def test_the_sample(self):
        web = sample_web()
        for rounds in (1, 7, 10 ** 39, GREAT, 10 ** 60):
            outcome = web.run(Load(("order", 10 * rounds)), rest=(0, 0, 2, 1))
            self.same([outcome.rest, outcome.outs], [(0, 0, 2, 1), Load(("label", 6 * rounds))])
            counts = {"order": 10, "cut": 5, "piece": 10, "paint": 7, "box": 5}
            lasting = web.run(Load(("order", 10)), rest=(0, 0, 2, 1)).delivered
            self.same(outcome.delivered, lasting * rounds)
            self.same([lasting["order"], lasting["cut"], lasting["piece"]], [10, counts["cut"], counts["piece"]])

    def test_halves(self):
        for times in (1, 3, GREAT):
            web = Web(copier("a", Load(("b", times))), once("b", 2, {"x": 1}))
            outcome = web.run(Load(("a", 2 * GREAT)))
            self.same([outcome.rest, outcome.outs], [(0, 0), Load(("x", GREAT * times))])
            self.same(outcome.delivered, Load(("a", 2 * GREAT), ("b", 2 * GREAT * times)))

    def test_to_itself(self):
        for states in (2, 3, 600):
            web = Web(ring("a", [{"a": 1}] * (states - 1) + [{"x": 1}]))
            for many in (1, 2, 599, GREAT, GREAT + 1):
                for state in {0, 1, states - 1}:
                    outcome = web.run(Load(("a", many)), rest=(state,))
                    self.same([outcome.rest, outcome.outs], [(0,), Load(("x", many))])
                    self.same(outcome.delivered, Load(("a", many * states - state)))

    def test_to_itself_all_at_once(self):
        web = Web(once("a", 600, {"a": 599, "x": 1}))
        for many in (1, 599, 600, 601, 10 ** 9, GREAT):
            outcome = web.run(Load(("a", many)))
            rounds = max(0, many - 599)
            self.same([outcome.rest, outcome.outs["x"]], [(min(many, 599) % 600,), rounds])
            self.same(outcome.delivered["a"], rounds * 600 + min(many, 599))

    def test_five_handlers_and_back(self):
        for states in (2, 7, 600):
            whole = states ** 5
            chain = [every((kind,), states, out) for kind, out in ("ab", "bc", "cd", "de")]
            web = Web(*chain, once("e", states, {"a": whole - 1, "x": 1}))
            for many in (1, whole - 1, whole, whole + 5, 3 * whole, 10 ** 20, GREAT, 10 ** 60):
                outcome = web.run(Load(("a", many)))
                rounds = max(0, many - whole + 1)
                left = min(many, whole - 1)
                self.same(outcome.outs["x"], rounds)
                self.same(outcome.rest, tuple(left // states ** at % states for at in range(5)))
                self.same(outcome.delivered["a"], rounds * whole + left)
                self.same(outcome.delivered["e"], outcome.delivered["a"] // states ** 4)

    def test_five_handlers_and_back_from_another_rest(self):
        chain = [every((kind,), 600, out) for kind, out in ("ab", "bc", "cd", "de")]
        web = Web(*chain, once("e", 600, {"a": 600 ** 5 - 1, "x": 1}))
        outcome = web.run(Load(("a", 1)), rest=(599,) * 5)
        self.same([outcome.rest, outcome.outs["x"]], [(599,) * 5, 1])
        self.same(outcome.delivered["a"], 600 ** 5)
        outcome = web.run(Load(("a", GREAT)), rest=(599,) * 5)
        self.same([outcome.rest, outcome.outs["x"]], [(599,) * 5, GREAT])

    def test_there_and_back_by_ones(self):
        web = Web(ring("a", [{"b": 1}] * 599 + [{}]), ring("b", [{"a": 1}] * 599 + [{"a": 2}]))
        one = web.run(Load(("a", 1)))
        self.same([one.rest, one.delivered], [(0, 599), Load(("a", 600), ("b", 599))])
        for many in (GREAT, GREAT + 1):
            outcome = web.run(Load(("a", many)))
            self.same(outcome.delivered["a"] // many, 359999 if outcome.delivered["a"] < 360000 * many else 360000)
            then = web.run(Load(("a", 1)), rest=outcome.rest)
            both = web.run(Load(("a", many + 1)))
            self.same([both.rest, both.delivered], [then.rest, outcome.delivered + then.delivered])

    def test_great_counts_on_the_way(self):
        web = Web(copier("a", Load(("b", GREAT), ("x", 1))), ring("b", [{"b": 1}] * 598 + [{}, {"y": GREAT}]),
                  every(("c",), 2, "a"))
        outcome = web.run(Load(("c", 2 * GREAT)))
        self.same(outcome.delivered, Load(("a", GREAT), ("b", 300 * GREAT * GREAT), ("c", 2 * GREAT)))
        self.same(outcome.outs, Load(("x", GREAT), ("y", GREAT * GREAT * GREAT // 2)))

    def test_what_was_returned_is_handed_in_again(self):
        web = sample_web()
        load = Load(("order", GREAT))
        for _ in range(200):
            outcome = web.run(load)
            self.same(web.run(outcome.delivered, rest=outcome.rest).delivered["order"], load["order"])
            load = outcome.delivered * 10 ** 45
        self.assertGreater(load["order"], 10 ** 9000)


class InParts(Case):
    def in_parts(self, web, one, other, rest):
        first = web.run(one, rest=rest)
        then, both = web.run(other, rest=first.rest), web.run(one + other, rest=rest)
        self.same([both.rest, both.outs], [then.rest, first.outs + then.outs])
        self.same(both.delivered, first.delivered + then.delivered)
        self.same(both.delivered, one + other + self.sent_again(web, both, rest))

    def sent_again(self, web, outcome, rest):
        """What the handlers send of the kinds of the web for what was delivered."""
        sent = Load()
        for handler, state, end in zip(web.handlers, rest, outcome.rest):
            taken = load_of({kind: outcome.delivered[kind] for kind in handler.kinds})
            behind, more = handler.after(taken, state=state)
            self.same(behind, end)
            sent = sent + load_of({name: count for name, count in more.pairs if name in web.kinds})
        return sent

    def test_any_webs(self):
        source = random.Random(31)
        for _ in range(120):
            web = some_web(source, size=source.randint(1, 9), density=0.3, most=source.choice((1, 3, 30)))
            for most in (3, 10 ** 6, GREAT):
                self.in_parts(web, some_load(source, web.kinds, GREAT), some_load(source, web.kinds, most),
                              some_rest(source, web))

    def test_webs_that_are_nearly_endless(self):
        source = random.Random(32)
        for lengths in ((600,), (600, 599), (50, 60), (40, 30, 50), (7, 9, 8, 11), (200, 300, 250), (3, 4, 5, 3, 4)):
            for less in (1, 2, 10, 1000):
                web = nearly_endless(source, lengths, less)
                for most in (1, 1000, GREAT):
                    self.in_parts(web, some_load(source, web.kinds, GREAT), some_load(source, web.kinds, most),
                                  some_rest(source, web))

    def test_rings_that_are_hardly_ever_at_an_end(self):
        # 193098820 rests, of which 4 are lasting: to come to one of them message by message would take long.
        source = random.Random(34)
        handlers = []
        for kind, to, states, count in (("a", "b", 580, 579), ("b", "c", 577, 576), ("c", "a", 577, 579)):
            sends = [1] * states
            for _ in range(abs(count - states)):
                sends[source.randrange(states)] += 1 if count > states else -1
            self.same(sum(sends), count)
            handlers.append(ring(kind, [load_of({to: each, "x": each - 1}) for each in sends]))
        web = Web(*handlers)
        for one, other in ((GREAT, GREAT), (GREAT + 1, 10 ** 12), (10 ** 9, 10 ** 9 + 7)):
            self.in_parts(web, Load(("a", one)), Load(("b", other), ("c", 1)), (0, 0, 0))

    def test_great_handlers(self):
        weights = (1, 2, 3, 4, 5, 599)
        web = Web(Handler(*meter(("a", "b", "c", "d", "e", "f"), weights, 600, "g")),
                  Handler(*meter(("g", "h"), (1, 1), 599, "a", ((("x", 1),), (("g", 1),)))))
        source = random.Random(33)
        for most in (10, 10 ** 9, GREAT):
            self.in_parts(web, some_load(source, web.kinds, most), some_load(source, web.kinds, GREAT), (1, 2))


class Manners(Case):
    """The ways to run, which depend on how long a run is, tell the same."""

    def agrees(self, web, load, rest, manners=MANNERS):
        told = [run_as(manner, web, load, rest) for manner in manners]
        for outcome in told[1:]:
            self.same(outcome, told[0])
        return told[0]

    def test_any_webs_one_by_one(self):
        source = random.Random(41)
        for seed in range(120):
            web = some_web(source, handlers=3, size=source.randint(1, 5), density=0.3)
            rest, load = some_rest(source, web), some_load(source, web.kinds, 12)
            outcome = self.agrees(web, load, rest)
            self.same((outcome.rest, outcome.outs, outcome.delivered), one_by_one(web, load, rest, "any", seed))

    def test_any_webs_in_bulk(self):
        source = random.Random(42)
        for _ in range(30):
            web = some_web(source, size=8, density=0.4, most=source.choice((1, 5, 40)))
            rest, load = some_rest(source, web), some_load(source, web.kinds, 10 ** 6)
            outcome = self.agrees(web, load, rest)
            self.same((outcome.rest, outcome.outs, outcome.delivered), in_bulk(web, load, rest))

    def test_webs_that_are_nearly_endless(self):
        source = random.Random(43)
        for lengths in ((5,), (9, 7), (8, 8), (5, 6, 4), (3, 4, 5, 2), (2, 3, 2, 3, 4)):
            for less in (1, 2, 5, 30):
                web = nearly_endless(source, lengths, less)
                for most in (3, 100, 10000):
                    rest, load = some_rest(source, web), some_load(source, web.kinds, most)
                    outcome = self.agrees(web, load, rest)
                    self.same((outcome.rest, outcome.outs, outcome.delivered), in_bulk(web, load, rest))

    def test_several_circles_behind_one_another(self):
        source = random.Random(44)
        for _ in range(20):
            one = nearly_endless(source, (source.randint(2, 9), source.randint(2, 9)), 1)
            other = nearly_endless(source, (source.randint(3, 9), 6), 2, "pq", "z")
            web = Web(*other.handlers, *one.handlers, dealer("x", ("p", "q", "y")))
            rest, load = some_rest(source, web), some_load(source, ("a", "b", "p"), 1000)
            outcome = self.agrees(web, load, rest, MANNERS[1:])
            self.same((outcome.rest, outcome.outs, outcome.delivered), in_bulk(web, load, rest))


if __name__ == "__main__":
    unittest.main()
