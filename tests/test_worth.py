"""Sums, promise 1: the worth of a load; and what terms are."""

import random
import unittest

from everyload.errors import InvalidEntries, InvalidTerms, NotALoad, NotAWeb, UnknownKind
from everyload.loads import Load
from everyload.samples import copier, dealer, every, sample_web
from everyload.sums import greatest, passing, worth
from everyload.webs import Web
from tests.support import STRANGE, Anything, Case, nested
from tests.test_come_to import NO_ENTRIES, NO_WEBS, WEB
from tests.webs import load_of, one_by_one, some_load, some_web

GREAT = 10 ** 45
# Entries and outs of the web of the tests of entries: kinds a, b, c, outs x, y.
ENTRIES = ("a", "b")
TERMS = (("a", 1), ("x", -2))
NO_LOADS = STRANGE + ("1 a", Anything(), nested(29), WEB)
# (terms, index) for these entries.
NO_TERMS = [(terms, None) for terms in STRANGE[:6] + ((), [("a", 1)], {"a": 1}, iter((("a", 1),)), "a", Load(("a", 1)),
                                                      Anything(), (("a", 1),) * 7, (None,) * 7, nested(0) * 4)]
NO_TERMS += [((wrong,), 0) for wrong in STRANGE + (
    "a", ("a",), ("a", 1, 1), ["a", 1], ("a", True), ("a", None), ("a", "1"), ("a", (1,)), ("c", 1), ("z", 1), ("A", 1),
    (None, 1), (("a",), 1), (["a"], 1), (1, "a"), ("a", Anything()), (Anything(), 1), Anything(), nested(28), ("", 0))]
NO_TERMS += [((("a", 1), ("a", 2)), 1), ((("x", 1), ("b", 1), ("x", 1)), 2), ((("a", 0), None), 1),
             ((("a", 1), ("c", 1), None), 1), ((("a", 1), ("b", 1), ("x", 1), ("y", 1), ("z", 1), ("b", 1)), 4),
             ((("a", 1), ("b", 1), ("x", 1), ("y", 1), ("b", 1), ("a", 1)), 4)]


def worth_one_by_one(web, terms, load):
    """The worth, by delivering single messages."""
    outs = one_by_one(web, load, web.start)[1]
    return sum(number * (load[name] + outs[name]) for name, number in terms)


def some_terms(source, web, entries, most):
    names = list(entries) + list(web.outs)
    many = source.randint(1, min(6, len(names)))
    return tuple((name, source.randint(-most, most)) for name in source.sample(names, many))


class Worth(Case):
    def test_any_webs(self):
        source = random.Random(201)
        for _ in range(200):
            web = some_web(source, size=3)
            entries = tuple(source.sample(web.kinds, source.randint(1, len(web.kinds))))
            terms = some_terms(source, web, entries, source.choice((3, GREAT)))
            load = some_load(source, entries, 4)
            told = worth(web, entries, terms, load)
            self.same(told, worth_one_by_one(web, terms, load))
            self.same(worth(load=load, terms=terms[::-1], entries=entries[::-1], web=web), told)

    def test_the_sample(self):
        terms = (("order", 3), ("label", -5))
        told = [worth(sample_web(), ("order",), terms, load_of({"order": many})) for many in range(12)]
        self.same(told, [0, 3, 1, 4, 2, 0, 3, 1, 4, 2, 5, 3])

    def test_no_load_at_all(self):
        self.same(worth(WEB, ENTRIES, TERMS, Load()), 0)
        self.same(worth(WEB, ENTRIES, (("a", GREAT),), Load()), 0)

    def test_great_loads_and_terms(self):
        web = Web(every(("a", "b"), 3, "c"), copier("c", Load(("x", GREAT))))
        load = Load(("a", GREAT), ("b", 2 * GREAT))
        self.same(worth(web, ("b", "a"), (("x", GREAT),), load), GREAT ** 3)
        self.same(worth(web, ("b", "a"), (("x", 1 - GREAT), ("a", -GREAT)), load), (1 - GREAT) * GREAT ** 2 - GREAT ** 2)
        self.same(worth(web, ("a", "b"), (("x", 0),), load * GREAT), 0)

    def test_one_term_and_six(self):
        web = Web(dealer("a", ("u", "v", "w", "x", "y", "z")), copier("b", Load(("u", 2))))
        terms = tuple((name, 10 ** at) for at, name in enumerate("uvwxya"))
        self.same(worth(web, ("a", "b"), terms, Load(("a", 13), ("b", 1))), 5 + 20 + 200 + 2000 + 20000 + 1300000)
        self.same(worth(web, ("a", "b"), (("b", -7),), Load(("a", 13), ("b", 3))), -21)

    def test_an_entry_that_other_messages_send_too(self):
        # Only those of the load count.
        web = Web(copier("a", Load(("b", 5))), dealer("b", ("x", "y")))
        self.same(worth(web, ("a", "b"), (("b", 1),), Load(("a", 4), ("b", 3))), 3)
        self.same(worth(web, ("a", "b"), (("b", 1), ("x", 100)), Load(("a", 4), ("b", 3))), 1203)

    def test_more_rests_than_states_may_be(self):
        web = Web(every(("a",), 600, "b"), every(("b",), 600, "x"))
        self.same(worth(web, ("a",), (("x", 1),), Load(("a", 360000 * GREAT))), GREAT)


class Refused(Case):
    def test_no_webs(self):
        for value in NO_WEBS:
            for call, more in ((worth, (None, None, None)), (greatest, (None, None)), (passing, (None, None, None))):
                self.fails(NotAWeb, {"value": value}, call, value, *more)

    def test_no_entries(self):
        for entries, index in NO_ENTRIES:
            for call, more in ((worth, (None, None)), (greatest, (None,)), (passing, (None, None))):
                self.fails(InvalidEntries, {"index": index}, call, WEB, entries, *more)

    def test_no_terms(self):
        for terms, index in NO_TERMS:
            for call, more in ((worth, (None,)), (greatest, ()), (passing, (None,))):
                self.fails(InvalidTerms, {"index": index}, call, WEB, ENTRIES, terms, *more)

    def test_no_loads(self):
        for value in NO_LOADS:
            self.fails(NotALoad, {"value": value}, worth, WEB, ENTRIES, TERMS, value)

    def test_other_kinds(self):
        for text, name in (("1 c", "c"), ("1 a, 1 c", "c"), ("1 a, 1 b1, 1 d", "b1"), ("1 x", "x"), ("1 c, 3 y", "c")):
            load = Load.read(text)
            self.fails(UnknownKind, {"value": name}, worth, WEB, ENTRIES, TERMS, load)

    def test_what_is_right_is_let_in(self):
        for terms in ((("a", GREAT),), (("y", -GREAT), ("b", 0)), (("x", 1), ("y", 1), ("a", 1), ("b", 1))):
            self.same(worth(WEB, ENTRIES, terms, Load()), 0)


if __name__ == "__main__":
    unittest.main()
