"""Promise 11: the first loads that part handlers, and webs."""

import random
import unittest

from everyload.alike import alike, parting, web_parting, webs_alike
from everyload.errors import InvalidEntries, NotAHandler, NotAWeb, NotComparable, TooManyStates
from everyload.folding import as_one, folded, least
from everyload.handlers import Handler
from everyload.loads import Load
from everyload.samples import copier, dealer, every, sample_web
from everyload.webs import Web
from tests.support import Case
from tests.tables import all_tables, heeding, meter
from tests.test_come_to import NO_ENTRIES, NO_WEBS, WEB, long_way
from tests.test_least import NO_HANDLERS
from tests.webs import loads_up_to, one_by_one, ring, some_handler, some_load, some_web

GREAT = 10 ** 45


def reordered(handler, kinds):
    """The same handler with its kinds in another order."""
    places = [handler.kinds.index(kind) for kind in kinds]
    return Handler(kinds, tuple(tuple(row[place] for place in places) for row in handler.rows))


def changed(source, handler):
    """The handler with one more message sent by all steps of a kind from some way on: for one kind it never heeds."""
    rows = [list(row) for row in handler.rows]
    state = source.choice(handler.reachable)
    follows, pairs = rows[state][0]
    rows[state][0] = (follows, tuple(sorted({**dict(pairs), "z": 1}.items())))
    return Handler(handler.kinds, tuple(map(tuple, rows)))


class Parting(Case):
    def first(self, one, other, most):
        """The first load up to a size for which they do not send the same, by trying them all."""
        for load in loads_up_to(one.kinds, most):
            if one.after(load)[1] != other.after(load)[1]:
                return load
        return None

    def agrees(self, one, other, most):
        load = parting(one, other)
        self.assertIs(alike(one, other), load is None)
        if load is None or load.size <= most:
            self.same(load, self.first(one, other, most))
        else:
            self.same(self.first(one, other, most), None)
            self.assertNotEqual(one.after(load)[1], other.after(load)[1])
        return load

    def test_all_pairs_of_small_tables(self):
        tables = [rows for rows in all_tables(2, 2, ((), (("x", 1),))) if heeding(("b", "a"), rows) is None]
        handlers = [Handler(("b", "a"), rows) for rows in tables]
        source = random.Random(101)
        for _ in range(1500):
            self.agrees(source.choice(handlers), source.choice(handlers), 5)

    def test_all_pairs_of_small_tables_of_one_kind(self):
        handlers = [Handler(("a",), rows) for rows in all_tables(1, 2, ((), (("x", 1),)))]
        for one in handlers:
            for other in handlers:
                self.agrees(one, other, 5)

    def test_any_handlers(self):
        source = random.Random(102)
        told = [0, 0]
        for _ in range(300):
            kinds = tuple(source.sample(("a", "b", "c"), source.randint(1, 3)))
            one = some_handler(source, kinds, ["x"], size=3, density=0.3, most=1)
            other = some_handler(source, kinds, ["x"], size=3, density=0.3, most=1)
            order = tuple(source.sample(kinds, len(kinds)))
            told[self.agrees(one, reordered(other, order), 5) is None] += 1
            self.same(parting(one, reordered(one, order)), None)
            self.same(parting(least(one), one), None)
        self.assertGreater(min(told), 5)

    def test_a_change_far_on(self):
        source = random.Random(103)
        for _ in range(60):
            one = some_handler(source, ("a",), ["x", "y"], size=9, density=0.5)
            other = changed(source, one)
            load = parting(one, other)
            self.same(load, self.first(one, other, 40))
            self.same(parting(other, one), load)

    def test_the_order_of_the_kinds_of_the_first(self):
        one = Handler(("b", "a"), (((0, (("x", 1),)), (0, (("x", 1),))),))
        other = Handler(("a", "b"), (((0, ()), (0, ())),))
        self.same(parting(one, other), Load(("b", 1)))
        self.same(parting(other=one, one=other), Load(("a", 1)))

    def test_sizes_come_first(self):
        # `a` parts them by its third message, `b` by its second, both together by one of each.
        one = Handler(*meter(("a", "b"), (1, 1), 3, "x"))
        self.same(parting(one, Handler(*meter(("a", "b"), (1, 2), 3, "x"))), Load(("a", 1), ("b", 1)))
        self.same(parting(every(("a", "b"), 3, "x"), every(("a", "b"), 4, "x")), Load(("a", 3)))
        self.same(parting(every(("b", "a"), 3, "x"), every(("a", "b"), 4, "x")), Load(("b", 3)))

    def test_long_ways(self):
        self.same(parting(every(("a",), 600, "x"), every(("a",), 599, "x")), Load(("a", 599)))
        one = dealer("a", ("x",) * 599 + ("y",))
        self.same(parting(one, copier("a", Load(("x", 1)))), Load(("a", 600)))
        self.same(parting(dealer("a", ("x",) * 600), dealer("a", ("x",) * 599)), None)
        kinds = ("a", "b", "c", "d", "e", "f", "g", "h")
        weights = (1, 2, 3, 4, 5, 6, 7, 599)
        one, other = Handler(*meter(kinds, weights, 600)), Handler(*meter(kinds[::-1], weights[::-1], 600))
        self.same([parting(one, other), alike(one, other)], [None, True])
        self.same(parting(one, Handler(*meter(kinds, weights[:7] + (598,), 600))), Load(("a", 1), ("h", 1)))

    def test_it_is_what_is_sent_in_all_that_counts(self):
        one, other = dealer("a", ("x", "y")), dealer("a", ("y", "x"))
        self.same(str(parting(one, other)), "1 a")
        self.same(str(parting(every(("a",), 3, "b"), dealer("a", ("b",)))), "1 a")

    def test_states_to_which_nothing_leads(self):
        one = Handler.read("takes a\n0 a 0 sends 1 x\n1 a 0 sends 1 y")
        self.same([parting(one, copier("a", Load(("x", 1)))), alike(one, copier("a", Load(("x", 1))))], [None, True])

    def test_no_handlers(self):
        one = copier("a", Load())
        for value in NO_HANDLERS:
            for call in (parting, alike):
                self.fails(NotAHandler, {"value": value}, call, value, None)
                self.fails(NotAHandler, {"value": value}, call, one, value)

    def test_other_kinds(self):
        one = every(("a", "b"), 2, "x")
        for kinds in (("a",), ("b",), ("a", "c"), ("a", "b", "c"), ("c", "d")):
            for call in (parting, alike):
                self.fails(NotComparable, {}, call, one, every(kinds, 2, "x"))
                self.fails(NotComparable, {}, call, every(kinds, 2, "x"), one)


class WebParting(Case):
    def first(self, web, other, entries, most):
        for load in loads_up_to(entries, most):
            if one_by_one(web, load, web.start)[1] != one_by_one(other, load, other.start)[1]:
                return load
        return None

    def agrees(self, web, other, entries, most):
        load = web_parting(web, other, entries)
        self.assertIs(webs_alike(web, other, entries), load is None)
        if load is None or load.size <= most:
            self.same(load, self.first(web, other, entries, most))
        else:
            self.assertNotEqual(web.run(load).outs, other.run(load).outs)
        return load

    def test_any_webs(self):
        source = random.Random(111)
        told = [0, 0]
        while min(told) < 20:
            web = some_web(source, handlers=3, kinds=4, size=3, density=0.3, most=1, walks=1)
            at = source.randrange(len(web))
            try:
                handlers = list(web.handlers)
                names = list(web.kinds) + ["out", "x"]
                handlers[at] = some_handler(source, handlers[at].kinds, names, size=3, density=0.3, most=1, walks=1)
                other = source.choice((Web(*handlers), folded(web, tuple(range(at + 1)))))
                entries = tuple(source.sample(web.kinds, source.randint(1, len(web.kinds))))
                as_one(web, entries)
                as_one(other, entries)
            except Exception as error:
                self.assertIn(type(error).__name__, ("Endless", "TooManyStates"))
                continue
            told[self.agrees(web, other, entries, 4) is None] += 1

    def test_the_sample(self):
        web = sample_web()
        turned = Web(dealer("order", ("paint", "cut")), *web.handlers[1:])
        self.same(str(self.agrees(web, turned, ("order",), 6)), "5 order")
        self.same(self.agrees(web, turned, ("cut", "paint", "box", "piece"), 4), None)
        self.same(self.agrees(web, turned, ("box", "order"), 4).size, 3)

    def test_as_one_in_a_web(self):
        web = sample_web()
        for entries in (("order",), ("paint", "order"), web.kinds):
            self.same(web_parting(web, Web(as_one(web, entries)), entries), None)
            self.assertIs(webs_alike(other=web, web=Web(least(as_one(web, entries))), entries=entries), True)

    def test_great_counts(self):
        web = Web(copier("a", Load(("b", GREAT))), ring("b", [{"b": 1}] * 6 + [{"x": 1}]))
        self.same(web_parting(web, Web(copier("a", Load(("x", GREAT)))), ("a",)), None)
        self.same(web_parting(web, Web(copier("a", Load(("x", GREAT - 1)))), ("a",)), Load(("a", 1)))

    def test_other_kinds_of_the_webs_are_no_matter(self):
        web = Web(every(("a", "b"), 2, "x"), dealer("d", ("y",)))
        other = Web(every(("c", "b"), 2, "x"), every(("a",), 2, "z"))
        self.same(web_parting(web, other, ("b",)), None)
        self.same(web_parting(web, other, ("b", "a")), Load(("b", 1), ("a", 1)))

    def test_no_webs(self):
        for value in NO_WEBS:
            for call in (web_parting, webs_alike):
                self.fails(NotAWeb, {"value": value}, call, value, None, None)
                self.fails(NotAWeb, {"value": value}, call, WEB, value, None)

    def test_no_entries(self):
        for entries, index in NO_ENTRIES:
            for call in (web_parting, webs_alike):
                self.fails(InvalidEntries, {"index": index}, call, WEB, WEB, entries)

    def test_entries_of_one_of_them(self):
        one, other = Web(every(("a", "b", "c"), 2, "x")), Web(every(("d", "b", "a"), 2, "x"))
        for entries, index in ((("c",), 0), (("d",), 0), (("a", "d", "c"), 1), (("b", "a", "c"), 2), (("x",), 0),
                               (("c", "d"), 0), (("d", "c"), 0), (("b", "c", "d"), 1)):
            for call in (web_parting, webs_alike):
                self.fails(InvalidEntries, {"index": index}, call, one, other, entries)
        self.assertIs(webs_alike(one, other, ("b", "a")), True)

    def test_too_many_states(self):
        small, great = Web(copier("a", Load(("x", 1)))), long_way(600, 1)
        for call in (web_parting, webs_alike):
            self.fails(TooManyStates, {"limit": 600}, call, small, great, ("a",))
            self.fails(TooManyStates, {"limit": 600}, call, great, small, ("a",))
            self.fails(TooManyStates, {"limit": 600}, call, great, great, ("a",))
            self.fails(InvalidEntries, {"index": 1}, call, great, great, ("a", "a"))
            self.fails(InvalidEntries, {"index": 1}, call, great, small, ("a", "b"))
        self.same(web_parting(long_way(599, 1), long_way(599, 1), ("a",)), None)
        self.same(web_parting(small, long_way(599, 1), ("a",)), Load(("a", 1)))


if __name__ == "__main__":
    unittest.main()
