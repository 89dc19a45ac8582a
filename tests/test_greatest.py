"""Sums, promises 2 and 3: the greatest worth, and the least loads that pass a number."""

import random
import unittest

from everyload.errors import InvalidNumber, InvalidTerms, TooManyStates
from everyload.folding import as_one
from everyload.handlers import Handler
from everyload.loads import Load
from everyload.samples import copier, dealer, every, sample_web
from everyload.sums import greatest, passing, worth
from everyload.webs import Web
from tests.support import STRANGE, Anything, Case, nested
from tests.tables import meter
from tests.test_come_to import WEB, long_way
from tests.test_worth import ENTRIES, TERMS, some_terms, worth_one_by_one
from tests.webs import one_by_one, once, rows_of, some_web

GREAT = 10 ** 45


def gains(web, entries, terms):
    """For each rest that is come to and each entry: the rest behind and what the step is worth, one by one."""
    told, found, waiting = dict(terms), {}, [web.start]
    while waiting:
        rest = waiting.pop()
        if rest not in found:
            found[rest] = []
            for entry in entries:
                behind, outs, _ = one_by_one(web, Load((entry, 1)), rest)
                gain = told.get(entry, 0) + sum(number * outs[name] for name, number in terms if name in web.outs)
                found[rest].append((behind, gain))
                waiting.append(behind)
    return found


def layers(web, entries, terms):
    """The greatest worth of loads of the sizes 0, 1, 2 .., for ever."""
    steps = gains(web, entries, terms)
    worths = {web.start: 0}
    while True:
        yield max(worths.values())
        new = {}
        for rest, height in worths.items():
            for behind, gain in steps[rest]:
                new[behind] = max(new.get(behind, height + gain), height + gain)
        worths = new


def most_of_all(web, entries, terms):
    """The greatest worth of all loads, None if it can be raised for ever: then it still is behind so many steps."""
    steps = gains(web, entries, terms)
    worths = {web.start: 0}
    for _ in range(len(steps) + 1):
        raised = False
        for rest in list(worths):
            for behind, gain in steps[rest]:
                if behind not in worths or worths[behind] < worths[rest] + gain:
                    worths[behind] = worths[rest] + gain
                    raised = True
        if not raised:
            return max(worths.values())
    return None


def first_passing(web, entries, terms, bound, most):
    """The least size of a load whose worth is above the bound, up to a size; None."""
    for size, height in enumerate(layers(web, entries, terms)):
        if height > bound:
            return size
        if size == most:
            return None


def some_sum(source, **told):
    """A web of few rests that are come to, entries of it, and terms."""
    while True:
        web = some_web(source, **told)
        entries = tuple(source.sample(web.kinds, source.randint(1, min(3, len(web.kinds)))))
        try:
            if len(as_one(web, entries)) <= 30:
                return web, entries, some_terms(source, web, entries, source.choice((2, 5, 40)))
        except TooManyStates:
            pass


def tailed(source, kinds, number):
    """A walk that sends on the way into its ring the one thing, and on the ring the other."""
    tail, ring = source.randint(1, 3), source.randint(1, 4)
    sends = [{"x" + str(number): source.randint(0, 2)} for _ in range(tail)]
    sends += [{"y" + str(number): source.randint(0, 1)} for _ in range(ring)]
    weights = [source.choice((0, 1, 1, 2)) for _ in kinds]
    return tail, weights, [{name: count for name, count in sent.items() if count} for sent in sends]


def flat(source, web, entries):
    """Terms of a sum with no means above 0, if there is an out: what goes out is made good by what comes in."""
    out = source.choice(web.outs)
    rounds = 60 * len(as_one(web, entries))
    own = []
    for entry in entries[:5]:
        far, near = (web.run(Load((entry, times * rounds))).outs[out] for times in (3, 2))
        own.append((entry, -((far - near) // 60 + source.choice((0, 0, 1)))))
    return ((out, rounds // 60), *own)


class Greatest(Case):
    def agrees(self, web, entries, terms):
        told = greatest(web, entries, terms)
        if told is None:
            self.same(most_of_all(web, entries, terms), None)
            return 0
        number, load = told
        self.same(number, most_of_all(web, entries, terms))
        self.same(worth_one_by_one(web, terms, load), number)
        self.assertTrue(all(name in entries for name in load.names))
        return 1

    def test_any_webs(self):
        source = random.Random(211)
        told = [0, 0]
        for _ in range(150):
            told[self.agrees(*some_sum(source, size=3))] += 1
        self.assertGreater(min(told), 30)

    def test_sums_that_are_flat_in_the_mean(self):
        source = random.Random(212)
        many = 0
        while many < 60:
            web, entries, _ = some_sum(source, handlers=3, kinds=4, size=4, density=0.4)
            if web.outs:
                terms = flat(source, web, entries)
                many += self.agrees(web, entries, terms)
                turned = tuple((name, -number) for name, number in terms)
                self.agrees(web, entries, turned)

    def test_the_sample(self):
        number, load = greatest(sample_web(), ("order",), (("order", 3), ("label", -5)))
        self.same([number, worth(sample_web(), ("order",), (("order", 3), ("label", -5)), load)], [5, 5])
        self.same(greatest(sample_web(), ("order",), (("label", 5), ("order", -3))), (0, Load()))
        self.same(greatest(sample_web(), ("order",), (("label", 1),)), None)
        self.same(greatest(terms=(("label", 5), ("order", -4)), web=sample_web(), entries=("order",)), (0, Load()))

    def test_the_empty_load_counts(self):
        self.same(greatest(WEB, ENTRIES, (("x", -1), ("a", -1))), (0, Load()))
        self.same(greatest(WEB, ENTRIES, (("x", 0),)), (0, Load()))
        self.same(greatest(WEB, ("a",), (("a", -GREAT),)), (0, Load()))

    def test_every_number_is_passed_by_ever_so_little(self):
        web = Web(every(("a",), 600, "x"))
        self.same(greatest(web, ("a",), (("x", 600 * GREAT), ("a", -GREAT))), (0, Load()))
        self.same(greatest(web, ("a",), (("x", 600 * GREAT + 1), ("a", -GREAT))), None)
        self.same(greatest(web, ("a",), (("x", -600 * GREAT - 1), ("a", GREAT))), (599 * GREAT, Load(("a", 599))))
        self.same(greatest(web, ("a",), (("x", -600 * GREAT + 1), ("a", GREAT))), None)

    def test_the_greatest_is_only_reached_once(self):
        # State 0 is left for ever, and what is sent then is never sent again.
        web = Web(Handler.read("takes a b\n0 a 1 sends 1 x\n0 b 0\n1 a 2 sends 1 x\n1 b 1\n2 a 2\n2 b 2"))
        number, load = greatest(web, ("b", "a"), (("x", 7), ("b", -1)))
        self.same([number, load["b"]], [14, 0])
        self.assertGreaterEqual(load["a"], 2)
        self.same(greatest(web, ("b", "a"), (("x", 7), ("b", 1))), None)

    def test_six_hundred_and_one_more(self):
        web = long_way(599, 1)
        self.same(greatest(web, ("a",), (("a", 1),)), None)
        self.same(greatest(web, ("a",), (("a", -1),)), (0, Load()))
        web = long_way(600, 1)
        self.fails(TooManyStates, {"limit": 600}, greatest, web, ("a",), (("a", 1),))
        self.fails(TooManyStates, {"limit": 600}, passing, web, ("a",), (("a", 1),), 0)
        self.same(worth(web, ("a",), (("a", 1),), Load(("a", 5))), 5)
        self.fails(InvalidTerms, {"index": 0}, greatest, web, ("a",), (("b", 1),))

    def test_six_hundred_states_and_eight_kinds(self):
        kinds = tuple("abcdefgh")
        weights = (1, 7, 11, 13, 17, 23, 31, 599)
        web = Web(Handler(*meter(kinds, weights, 600)))
        terms = (("out", 600), ("a", -1), ("b", -7), ("c", -11), ("d", -13), ("e", -17))
        self.same(greatest(web, kinds[:5], terms), (0, Load()))
        number, load = greatest(web, kinds[:5], tuple((name, -each) for name, each in terms))
        self.same([number, worth(web, kinds, tuple((name, -each) for name, each in terms), load)], [599, 599])
        self.same(greatest(web, kinds, terms), None)


class Passing(Case):
    def agrees(self, web, entries, terms, bound, most=500):
        load = passing(web, entries, terms, bound)
        if load is None:
            self.same(first_passing(web, entries, terms, bound, 2 * len(as_one(web, entries))), None)
            told = greatest(web, entries, terms)
            self.assertLessEqual(told[0], bound)
            return "none"
        self.assertGreater(worth(web, entries, terms, load), bound)
        if load.size > most:
            self.same(first_passing(web, entries, terms, bound, most), None)
            return "far"
        self.same(first_passing(web, entries, terms, bound, most), load.size)
        return "near" if load.size <= 2 * len(as_one(web, entries)) else "on"

    def test_any_webs(self):
        source = random.Random(221)
        told = {}
        for _ in range(100):
            web, entries, terms = some_sum(source, size=3)
            for bound in (0, 1, source.randint(2, 60), 1000):
                word = self.agrees(web, entries, terms, bound)
                told[word] = told.get(word, 0) + 1
        self.assertGreater(min(told[word] for word in ("none", "near", "on", "far")), 5)

    def test_states_that_are_left_for_ever(self):
        # What is sent on a way into a ring costs much, what is sent on the ring brings little: so it takes long.
        source = random.Random(222)
        told = {}
        for _ in range(200):
            kinds = tuple(source.sample("abc", source.randint(1, 3)))
            rows = rows_of(kinds, [tailed(source, kinds, at) for at in range(source.randint(1, 2))])
            web = Web(Handler(kinds, tuple(map(tuple, rows))))
            terms = [(name, source.randint(-300, -20) if name < "y" else source.randint(1, 4)) for name in web.outs]
            terms += [(kind, source.randint(-1, 0)) for kind in kinds[:2]]
            for bound in (0, 7):
                word = self.agrees(web, kinds, tuple(terms[:6]), bound, 3000)
                told[word] = told.get(word, 0) + 1
        self.assertGreater(min(told[word] for word in ("none", "near", "on")), 20)

    def test_the_sample(self):
        self.same(passing(sample_web(), ("order",), (("label", 1),), 2), Load(("order", 5)))
        self.same(passing(sample_web(), ("order",), (("label", 1),), 0), Load(("order", 2)))
        self.same(passing(sample_web(), ("order",), (("order", 3), ("label", -5)), 4), Load(("order", 10)))
        self.same(passing(sample_web(), ("order",), (("order", 3), ("label", -5)), 5), None)
        self.same(passing(bound=1000, terms=(("label", 1),), entries=("order",), web=sample_web())["order"], 1669)

    def test_very_many_messages(self):
        web = Web(Handler.read("takes a\n0 a 1 sends 1 x\n1 a 1 sends 1 y"))
        for bound in (0, 1, 1000):
            self.same(passing(web, ("a",), (("x", -GREAT), ("y", 1)), bound), Load(("a", GREAT + bound + 2)))
        web = Web(every(("a",), 600, "x"))
        load = passing(web, ("a",), (("x", 600 * GREAT + 1), ("a", -GREAT)), 1000)
        self.same(load, Load(("a", 600 * 1001)))
        self.same(passing(web, ("a",), (("x", 1 - 600 * GREAT), ("a", GREAT)), 0), Load(("a", 1)))

    def test_of_two_ways_the_one_that_is_shorter(self):
        # By `a` the handler moves on at a great loss, and then each `b` brings more; or `b` alone, which brings less.
        table = "takes a b\n0 a 1 sends 1 x\n0 b 0 sends 1 y\n1 a 1\n1 b 1 sends 1 y"
        web = Web(Handler.read(table))
        self.same(passing(web, ("a", "b"), (("x", -GREAT), ("y", 1)), 1000), Load(("b", 1001)))
        self.same(passing(web, ("a", "b"), (("x", -GREAT), ("y", 1), ("a", 2)), 1000), Load(("b", 1001)))
        for less in (100, 198, 200, 201, 500, 504, 505, 510, 5000):
            terms = (("x", -2 * less), ("y", 5), ("a", 10), ("b", 0))
            load = passing(web, ("b", "a"), terms, 1000)
            # Only `a`: 10 for each, less what the first one loses; only `b`: 5 for each.
            self.same(load.size, min((1000 + 2 * less) // 10 + 1, 201))

    def test_mixed_loads(self):
        # The first `b` is worth much; then only `a` brings something.
        web = Web(Handler.read("takes a b\n0 a 0\n0 b 1 sends 1 x\n1 a 1\n1 b 1"))
        terms = (("x", 900), ("a", 1), ("b", -3))
        load = passing(web, ("a", "b"), terms, 1000)
        self.same(load, Load(("a", 104), ("b", 1)))
        self.same(passing(web, ("a", "b"), terms, 896), Load(("b", 1)))

    def test_none(self):
        self.same(passing(WEB, ENTRIES, (("a", -1), ("b", 0)), 0), None)
        self.same(passing(WEB, ENTRIES, (("x", 0),), 1000), None)
        web = Web(Handler.read("takes a\n0 a 1 sends 1000 x\n1 a 1"))
        self.same([passing(web, ("a",), (("x", 1),), 1000), passing(web, ("a",), (("x", 1),), 999)],
                  [None, Load(("a", 1))])

    def test_no_bounds(self):
        for value in STRANGE[:21] + (-1, 1001, GREAT, -GREAT, "0", (0,), [0], Anything(), nested(29), Load()):
            self.fails(InvalidNumber, {"value": value}, passing, WEB, ENTRIES, TERMS, value)
        web = long_way(600, 1)
        self.fails(InvalidNumber, {"value": 1001}, passing, web, ("a",), (("a", 1),), 1001)
        self.fails(InvalidTerms, {"index": None}, passing, web, ("a",), (), 1001)
        self.fails(TooManyStates, {"limit": 600}, passing, web, ("a",), (("a", 1),), 1000)

    def test_far_in_a_web(self):
        web = Web(once("a", 3, {"b": 2, "x": 1}), once("b", 7, {"a": 1, "y": 1}), dealer("c", ("a", "b", "z")))
        for terms in ((("y", 3), ("c", -1)), (("x", 5), ("a", -2), ("z", 1)), (("z", 1), ("b", -1), ("y", 6))):
            for bound in (0, 100, 1000):
                self.assertIn(self.agrees(web, ("c", "b", "a"), terms, bound, 4000), ("near", "on", "none"))


if __name__ == "__main__":
    unittest.main()
