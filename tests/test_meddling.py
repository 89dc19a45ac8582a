"""Meddling, promise 7: kinds that meddle with others, the parts that do not, and the groups."""

import itertools
import random
import unittest

from everyload.alike import alike
from everyload.errors import InvalidKinds, Meddling, NotAHandler
from everyload.folding import as_one, least
from everyload.handlers import Handler
from everyload.loads import Load, compare
from everyload.meddling import groups, meddling, parts
from everyload.samples import copier, every
from everyload.webs import Web
from tests.support import STRANGE, Anything, Case, nested
from tests.tables import deliver, meter
from tests.test_least import NO_HANDLERS
from tests.webs import loads_up_to, some_handler, some_load

GREAT = 10 ** 45
# (kinds, index) for a handler of the kinds a, b, c.
NO_KINDS = [(kinds, None) for kinds in STRANGE[:6] + (
    (), "a", "ab", ["a"], {"a": 1}, iter("a"), b"a", Load(), frozenset("a"), Anything(), ("a", "b", "c"), ("a",) * 3,
    (None,) * 3, ("a", "b", "c", "d"), (1, 2, 3, 4))]
NO_KINDS += [((wrong,), 0) for wrong in STRANGE + ("d", "A", "ab", "", ("a",), Anything(), nested(29))]
NO_KINDS += [(("a", "a"), 1), (("b", "d"), 1), (("d", "d"), 0), (("c", None), 1), (("c", Anything()), 1)]


def sent(handler, load):
    """What is sent for a load, by delivering single messages."""
    messages = [kind for kind, count in load.pairs for _ in range(count)]
    return deliver(handler.rows, handler.kinds, messages)[1]


def part(load, kinds):
    return Load(*[pair for pair in load.pairs if pair[0] in kinds])


def others(handler, kinds):
    return tuple(kind for kind in handler.kinds if kind not in kinds)


def meddle(handler, kinds, load):
    """Whether they do for this load."""
    alone = sent(handler, part(load, kinds))
    for name, count in sent(handler, part(load, others(handler, kinds))).items():
        alone[name] = alone.get(name, 0) + count
    return sent(handler, load) != alone


def side_by_side(source, kinds, size=3):
    """A handler that does what two do, each for some of the kinds."""
    cut = source.randint(1, len(kinds) - 1)
    both = [some_handler(source, tuple(own), ["x", "y"], size=size, density=0.4, most=1, walks=1)
            for own in (kinds[:cut], kinds[cut:])]
    return as_one(Web(*both), tuple(source.sample(kinds, len(kinds))))


def some_halves(handler):
    for many in range(1, len(handler.kinds)):
        yield from itertools.combinations(handler.kinds, many)


class AnyHandlers(Case):
    def handlers(self, seed, many):
        source = random.Random(seed)
        for _ in range(many):
            kinds = source.sample("abcd", source.choice((2, 2, 3, 4)))
            if source.random() < 0.5:
                yield source, side_by_side(source, kinds)
            else:
                yield source, some_handler(source, tuple(kinds), ["x", "y"], size=3, density=0.3, most=1)

    def test_the_first_load(self):
        told = [0, 0]
        for source, handler in self.handlers(251, 120):
            most = 5 if len(handler.kinds) < 4 else 4
            for kinds in some_halves(handler):
                kinds = tuple(source.sample(kinds, len(kinds)))
                load = meddling(handler, kinds)
                first = next((each for each in loads_up_to(handler.kinds, most) if meddle(handler, kinds, each)), None)
                if load is None or load.size <= most:
                    self.same(load, first)
                else:
                    self.same(first, None)
                    self.assertTrue(meddle(handler, kinds, load))
                told[load is None] += 1
        self.assertGreater(min(told), 100)

    def test_parts(self):
        many = 0
        for source, handler in self.handlers(252, 120):
            for kinds in some_halves(handler):
                load = meddling(handler, kinds)
                if load is not None:
                    self.fails(Meddling, {"load": load}, parts, handler, kinds)
                    continue
                many += 1
                told = parts(handler, kinds)
                self.assertIs(type(told), tuple)
                one, other = told
                self.same([one.kinds, other.kinds], [others(handler, others(handler, kinds)), others(handler, kinds)])
                self.same([one, other], [least(one), least(other)])
                for most in (4, GREAT):
                    load = some_load(source, handler.kinds, most)
                    both = one.after(part(load, kinds))[1] + other.after(part(load, other.kinds))[1]
                    self.same(handler.after(load)[1], both)
        self.assertGreater(many, 50)

    def test_groups(self):
        seen = set()
        for _, handler in self.handlers(253, 120):
            apart = [set(kinds) for kinds in some_halves(handler) if meddling(handler, kinds) is None]
            groups_told = []
            for kind in handler.kinds:
                # Of two halves that do not meddle, what both have does not meddle, either.
                own = set(handler.kinds)
                for half in apart:
                    own &= half if kind in half else set(handler.kinds) - half
                group = tuple(other for other in handler.kinds if other in own)
                if group not in groups_told:
                    groups_told.append(group)
            self.same(groups(handler), tuple(groups_told))
            seen.add(tuple(map(len, groups_told)))
        self.assertTrue({(1, 1), (2,), (3,), (4,)} <= seen)


class KnownHandlers(Case):
    def test_the_examples(self):
        counted = every(("a", "b"), 3, "c")
        self.same(str(meddling(counted, ("a",))), "2 a, 1 b")
        self.same(str(meddling(kinds=("b",), handler=counted)), "2 a, 1 b")
        self.same(groups(counted), (("a", "b"),))
        single = every(("a", "b"), 1, "c")
        self.same([groups(handler=single), meddling(single, ("b",))], [(("a",), ("b",)), None])
        self.same(parts(kinds=("b",), handler=single), (every(("b",), 1, "c"), every(("a",), 1, "c")))

    def test_the_order_of_the_kinds_of_the_handler(self):
        self.same(str(meddling(every(("b", "a"), 3, "c"), ("a",))), "1 a, 2 b")
        handler = every(("b", "c", "a"), 4, "x")
        for kinds in (("a",), ("c", "b"), ("b", "c")):
            self.same(meddling(handler, kinds), Load(("b", 3), ("a", 1)))
        for kinds in (("b",), ("c", "a")):
            self.same(meddling(handler, kinds), Load(("b", 3), ("c", 1)))

    def test_only_all_three_together(self):
        # Each kind has been there or not; the last one to come sends.
        rows = []
        for state in range(8):
            steps = [(state | bit, (("x", 1),) if state != 7 and state | bit == 7 else ()) for bit in (1, 2, 4)]
            rows.append(tuple(steps))
        handler = Handler(("a", "b", "c"), tuple(rows))
        self.same(groups(handler), (("a", "b", "c"),))
        for kinds in some_halves(handler):
            self.same(meddling(handler, kinds), Load(("a", 1), ("b", 1), ("c", 1)))

    def test_groups_and_their_order(self):
        web = Web(every(("d", "a"), 2, "x"), every(("b",), 3, "x"), every(("e", "c"), 2, "y"))
        self.same(groups(as_one(web, ("e", "d", "b", "a", "c"))), (("e", "c"), ("d", "a"), ("b",)))
        self.same(groups(as_one(web, ("a", "b", "c", "d", "e"))), (("a", "d"), ("b",), ("c", "e")))
        self.same(groups(as_one(web, ("d", "e"))), (("d",), ("e",)))
        self.same(groups(copier("a", Load())), (("a",),))

    def test_states_to_which_nothing_leads(self):
        handler = Handler.read("takes a b\n0 a 0\n0 b 0\n1 a 0\n1 b 1 sends 1 x")
        self.same([groups(handler), meddling(handler, ("a",))], [(("a",), ("b",)), None])
        self.same([len(one) for one in parts(handler, ("a",))], [1, 1])

    def test_states_that_tell_nothing_apart(self):
        # The states are counted by both kinds together, but what is sent does not depend on them.
        rows = tuple(tuple(((state + step) % 600, (("x", step),)) for step in (1, 7)) for state in range(600))
        handler = Handler(("a", "b"), rows)
        self.same([meddling(handler, ("a",)), groups(handler)], [None, (("a",), ("b",))])
        self.same(parts(handler, ("b",)), (copier("b", Load(("x", 7))), copier("a", Load(("x", 1)))))

    def test_six_hundred_states(self):
        self.same(str(meddling(every(("a", "b"), 600, "c"), ("b",))), "599 a, 1 b")
        kinds = tuple("abcdefgh")
        handler = Handler(*meter(kinds, (1, 7, 11, 13, 17, 23, 31, 599), 600))
        self.same([str(meddling(handler, ("h", "b"))), groups(handler)], ["1 a, 1 h", (kinds,)])
        handler = Handler(*meter(kinds[:4], (1, 1, 2, 1), 600))
        self.same(str(meddling(handler, ("c", "a"))), "1 a, 1 b, 299 c")
        web = Web(*[every((kind,), count, "x") for kind, count in zip("abcde", (2, 3, 4, 5, 5))])
        whole = as_one(web, ("e", "a", "b", "c", "d"))
        self.same([len(whole), groups(whole)], [600, (("e",), ("a",), ("b",), ("c",), ("d",))])
        one, other = parts(whole, ("a", "e"))
        self.same([len(one), one.kinds, len(other), other.kinds], [10, ("e", "a"), 60, ("b", "c", "d")])
        self.assertTrue(alike(as_one(Web(one, other), whole.kinds), whole))

    def test_parts_of_the_parts(self):
        source = random.Random(254)
        for _ in range(40):
            handler = side_by_side(source, source.sample("abcd", 4))
            found = groups(handler)
            if len(found) > 1:
                one, other = parts(handler, found[0])
                self.same([groups(one), groups(other)], [found[:1], found[1:]])
                self.same(meddling(handler, found[-1]), None)

    def test_it_is_the_first_one(self):
        handler = every(("a", "b", "c"), 5, "x")
        load = meddling(handler, ("b",))
        self.same([str(load), compare(load, Load(("a", 4), ("b", 1)), ("a", "b", "c"))], ["4 a, 1 b", 0])


class Refused(Case):
    def test_no_handlers(self):
        for value in NO_HANDLERS:
            self.fails(NotAHandler, {"value": value}, meddling, value, None)
            self.fails(NotAHandler, {"value": value}, parts, value, None)
            self.fails(NotAHandler, {"value": value}, groups, value)

    def test_no_kinds(self):
        handler = every(("a", "b", "c"), 3, "x")
        for kinds, index in NO_KINDS:
            self.fails(InvalidKinds, {"index": index}, meddling, handler, kinds)
            self.fails(InvalidKinds, {"index": index}, parts, handler, kinds)

    def test_a_handler_of_one_kind(self):
        for kinds in ((), ("a",), ("b",), None, ("a", "a")):
            self.fails(InvalidKinds, {"index": None}, meddling, copier("a", Load()), kinds)

    def test_errors_of_kinds_come_first(self):
        self.fails(InvalidKinds, {"index": 1}, parts, every(("a", "b", "c"), 3, "x"), ("a", "a"))
        self.fails(Meddling, {"load": Load(("a", 2), ("b", 1))}, parts, every(("a", "b", "c"), 3, "x"), ("a", "c"))


if __name__ == "__main__":
    unittest.main()
