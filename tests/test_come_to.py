"""Promise 7: the rests that are come to, and their ways."""

import random
import unittest

from everyload.errors import InvalidEntries, InvalidRest, NotAWeb, TooManyStates
from everyload.folding import come_to, way_to
from everyload.handlers import Handler
from everyload.loads import Load, compare
from everyload.samples import copier, dealer, every, sample_web
from everyload.webs import Web
from tests.support import STRANGE, Anything, Case, nested
from tests.webs import once, ring, some_rest, some_web, ways

GREAT = 10 ** 45
NO_WEBS = STRANGE + (str(sample_web()), Anything(), nested(30), Load(), dealer("a", ("b",)), sample_web().handlers)
# (entries, index) for a web of the kinds a, b, c, which sends x.
NO_ENTRIES = [(entries, None) for entries in STRANGE[:6] + ("a", "abc", ["a"], {"a": 1}, iter("a"), (), b"a", Load(),
                                                            frozenset("a"), Anything())]
NO_ENTRIES += [((wrong,), 0) for wrong in STRANGE + ("x", "d", "A", "ab", ("a",), Anything(), nested(29))]
NO_ENTRIES += [(("a", "a"), 1), (("a", "b", "a", None), 2), (("a", "b", "c", "c"), 3), (("a", "b", "c", "d"), 3),
               (("c", "b", "x"), 2), (("a", None, "d"), 1), (("c", "a", "b", "a", "a", "a", "a", "a", "a", "a"), 3)]
WEB = Web(every(("a", "b"), 3, "c"), dealer("c", ("x", "y")))


def long_way(states, behind):
    """A way of so many states that then sends for ever, and a handler that goes so many states on with that."""
    rows = [((at + 1, ()),) for at in range(states - 1)] + [((states - 1, (("b", 1),)),)]
    return Web(Handler(("a",), tuple(rows)),
               Handler(("b",), tuple(((min(at + 1, behind), ()),) for at in range(behind + 1))))


class Rests(Case):
    def test_the_order(self):
        web = Web(every(("a", "b"), 3, "x"), dealer("c", ("y", "z")))
        self.same(come_to(web, ("a",)), ((0, 0), (1, 0), (2, 0)))
        self.same(come_to(web, ("c", "b")), ((0, 0), (0, 1), (1, 0), (1, 1), (2, 0), (2, 1)))
        self.same(come_to(web, ("b", "c")), ((0, 0), (1, 0), (0, 1), (2, 0), (1, 1), (2, 1)))
        self.same(come_to(web, entries=("b", "c", "a")), come_to(web, ("b", "c")))

    def test_ways(self):
        web = Web(every(("a", "b"), 3, "x"), dealer("c", ("y", "z")))
        self.same(way_to(web, ("b", "a", "c"), (2, 1)), Load(("b", 2), ("c", 1)))
        self.same(way_to(web, ("a", "b", "c"), (2, 1)), Load(("a", 2), ("c", 1)))
        self.same(way_to(rest=(0, 0), entries=("a",), web=web), Load())
        self.same(way_to(web, ("a",), (0, 1)), None)

    def agrees(self, web, entries):
        found = ways(web, entries)
        self.same(come_to(web, entries), tuple(found))
        for rest, way in found.items():
            self.same(way_to(web, entries, rest), way)
            self.same(web.run(way).rest, rest)
        for one, other in zip(list(found.values()), list(found.values())[1:]):
            self.same(compare(one, other, entries), -1)
        return found

    def test_any_webs(self):
        source = random.Random(61)
        many = 0
        while many < 60:
            web = some_web(source, handlers=3, kinds=5, size=source.randint(1, 4), walks=1)
            entries = tuple(source.sample(web.kinds, source.randint(1, min(3, len(web.kinds)))))
            if len(come_to(web, entries)) < 60:
                many += 1
                found = self.agrees(web, entries)
                rest = some_rest(source, web)
                self.same(way_to(web, entries, rest), found.get(rest))

    def test_the_sample(self):
        found = self.agrees(sample_web(), ("order",))
        self.same(len(found), 11)
        self.agrees(sample_web(), ("box", "cut"))
        self.agrees(sample_web(), ("piece", "order"))

    def test_great_counts_on_the_way(self):
        web = Web(copier("a", Load(("b", GREAT))), ring("b", [{"b": 1}] * 6 + [{}]), every(("c",), 2, "a"))
        self.same(come_to(web, ("c",)), ((0, 0, 0), (0, 0, 1)))
        web = Web(copier("a", Load(("b", GREAT + 1))), every(("b",), 5, "x"))
        self.same(come_to(web, ("a",)), ((0, 0), (0, 1), (0, 2), (0, 3), (0, 4)))

    def test_nothing_is_changed(self):
        web, entries = sample_web(), ("order",)
        self.same(come_to(web, entries), come_to(web, entries))
        self.same([web, entries], [sample_web(), ("order",)])


class Limits(Case):
    def test_six_hundred(self):
        web = Web(every(("a",), 600, "x"))
        self.same(come_to(web, ("a",)), tuple((state,) for state in range(600)))
        self.same(way_to(web, ("a",), (599,)), Load(("a", 599)))

    def test_one_more(self):
        self.same(len(come_to(long_way(599, 1), ("a",))), 600)
        self.same(come_to(long_way(599, 1), ("a",))[-1], (598, 1))
        self.fails(TooManyStates, {"limit": 600}, come_to, long_way(600, 1), ("a",))
        self.fails(TooManyStates, {"limit": 600}, come_to, long_way(599, 2), ("a",))
        self.fails(TooManyStates, {"limit": 600}, way_to, long_way(600, 1), ("a",), (0, 0))
        self.same(way_to(long_way(599, 1), ("a",), (0, 0)), Load())

    def test_the_number_of_all_rests_is_no_matter(self):
        kinds = "abcde"
        web = Web(*[every((kind,), 600, "x") for kind in kinds])
        for kind in kinds:
            self.same(len(come_to(web, (kind,))), 600)
        self.fails(TooManyStates, {"limit": 600}, come_to, web, ("a", "b"))
        self.fails(TooManyStates, {"limit": 600}, come_to, web, tuple(kinds))

    def test_twenty_four_by_twenty_five(self):
        web = Web(every(("a",), 24, "x"), every(("b",), 25, "x"))
        self.same(len(come_to(web, ("b", "a"))), 600)
        web = Web(every(("a",), 601 // 7 + 1, "x"), every(("b",), 7, "x"))
        self.fails(TooManyStates, {"limit": 600}, come_to, web, ("a", "b"))

    def test_many_rests_by_few_messages(self):
        web = Web(every(("a",), 600, "b"), every(("b",), 600, "c"), once("c", 600, {"a": 600 ** 3 - 1}))
        self.fails(TooManyStates, {"limit": 600}, come_to, web, ("a",))


class Refused(Case):
    def test_no_webs(self):
        for value in NO_WEBS:
            self.fails(NotAWeb, {"value": value}, come_to, value, None)
            self.fails(NotAWeb, {"value": value}, way_to, value, None, None)

    def test_no_entries(self):
        for entries, index in NO_ENTRIES:
            self.fails(InvalidEntries, {"index": index}, come_to, WEB, entries)
            self.fails(InvalidEntries, {"index": index}, way_to, WEB, entries, None)

    def test_no_rests(self):
        for rest in STRANGE + ((0,), (0, 0, 0), (3, 0), (0, 2), (0, True), (0, -1), [0, 0], Anything(), nested(30)):
            self.fails(InvalidRest, {"value": rest}, way_to, WEB, ("a",), rest)

    def test_the_order_of_errors(self):
        web = Web(every(("a",), 600, "x"), every(("b",), 2, "x"))
        self.fails(InvalidEntries, {"index": 2}, come_to, web, ("a", "b", "a"))
        self.fails(InvalidRest, {"value": None}, way_to, web, ("a", "b"), None)
        self.fails(TooManyStates, {"limit": 600}, way_to, web, ("a", "b"), (0, 0))


if __name__ == "__main__":
    unittest.main()
