"""Promise 8: one handler that does the same as a web."""

import random
import unittest

from everyload.errors import InvalidEntries, NotAWeb, TooManyStates
from everyload.folding import as_one, come_to
from everyload.handlers import Handler
from everyload.loads import Load
from everyload.samples import copier, dealer, every, sample_web
from everyload.webs import Web
from tests.support import Case
from tests.test_come_to import NO_ENTRIES, NO_WEBS, WEB, long_way
from tests.webs import one_by_one, some_load, some_web

GREAT = 10 ** 45


class AsOne(Case):
    def agrees(self, web, entries):
        """All rows, held against single deliveries at the rests."""
        handler, rests = as_one(web, entries), come_to(web, entries)
        self.assertIs(type(handler), Handler)
        self.same([handler.kinds, len(handler)], [entries, len(rests)])
        for rest, row in zip(rests, handler.rows):
            for entry, (follows, pairs) in zip(entries, row):
                end, out, _ = one_by_one(web, Load((entry, 1)), rest)
                self.same((rests[follows], pairs), (end, out.pairs))
        return handler

    def same_for(self, web, handler, load):
        outcome = web.run(load)
        state, sent = handler.after(load)
        self.same([sent, come_to(web, handler.kinds)[state]], [outcome.outs, outcome.rest])

    def test_any_webs(self):
        source = random.Random(71)
        many = 0
        while many < 60:
            web = some_web(source, size=source.randint(1, 4), walks=1)
            entries = tuple(source.sample(web.kinds, source.randint(1, min(3, len(web.kinds)))))
            try:
                rests = come_to(web, entries)
            except TooManyStates:
                continue
            if len(rests) < 80:
                many += 1
                handler = self.agrees(web, entries)
                for most in (2, 9, 10 ** 9, GREAT):
                    self.same_for(web, handler, some_load(source, entries, most))

    def test_the_sample(self):
        web = sample_web()
        for entries in (("order",), ("paint", "order"), web.kinds, web.kinds[::-1]):
            handler = self.agrees(web, entries)
            for load in (Load(), Load((entries[0], 1)), Load(*[(entry, GREAT) for entry in entries])):
                self.same_for(web, handler, load)

    def test_the_entries_in_their_order(self):
        web = Web(every(("a", "b"), 2, "x"), copier("c", Load(("a", 1), ("y", 1))))
        self.same(str(as_one(web=web, entries=("c", "b"))),
                  "takes c b\n0 c 1 sends 1 y\n0 b 1\n1 c 0 sends 1 x, 1 y\n1 b 0 sends 1 x")
        self.same(as_one(web, ("b", "c")).kinds, ("b", "c"))

    def test_all_kinds(self):
        kinds = ("a", "b", "c", "d", "e", "f", "g", "h")
        web = Web(every(kinds[:4], 3, "e"), every(kinds[4:], 2, "x"))
        handler = self.agrees(web, kinds)
        self.same([handler.kinds, len(handler)], [kinds, 6])

    def test_what_stays_inside_is_not_sent(self):
        self.same(as_one(Web(dealer("a", ("b", "b")), copier("b", Load())), ("a",)).sent, ())
        self.same(as_one(Web(copier("a", Load(("b", GREAT), ("x", 1))), copier("b", Load(("y", GREAT)))), ("a",)).rows,
                  (((0, (("x", 1), ("y", GREAT * GREAT))),),))

    def test_six_hundred_and_one_more(self):
        self.same(as_one(Web(every(("a",), 600, "x")), ("a",)), every(("a",), 600, "x"))
        self.same(len(as_one(long_way(599, 1), ("a",))), 600)
        self.fails(TooManyStates, {"limit": 600}, as_one, long_way(600, 1), ("a",))
        self.fails(TooManyStates, {"limit": 600}, as_one, long_way(599, 2), ("a",))

    def test_refused(self):
        for value in NO_WEBS:
            self.fails(NotAWeb, {"value": value}, as_one, value, None)
        for entries, index in NO_ENTRIES:
            self.fails(InvalidEntries, {"index": index}, as_one, WEB, entries)
        self.fails(InvalidEntries, {"index": 1}, as_one, long_way(600, 1), ("a", "a"))


if __name__ == "__main__":
    unittest.main()
