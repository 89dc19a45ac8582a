"""Certificates, promise 2: claims that are true, with papers that the checker accepts."""

import math
import random
import unittest

from everyload.alike import parting, web_parting
from everyload.certificates import certify_alike, certify_apart, certify_fewest, certify_greatest, certify_idle
from everyload.certificates import certify_one, certify_run
from everyload.checker import holds
from everyload.errors import InvalidEntries, InvalidKinds, InvalidRest, InvalidTerms, NotAHandler, NotALoad, NotAWeb
from everyload.errors import TooManyRows, TooManyStates, UnknownKind
from everyload.folding import as_one, come_to, folded, least
from everyload.handlers import Handler
from everyload.lasting import idle
from everyload.loads import Load
from everyload.meddling import meddling
from everyload.samples import copier, dealer, every, sample_web
from everyload.sums import greatest
from everyload.webs import Web
from tests.claims import so
from tests.support import Case
from tests.tables import meter
from tests.test_come_to import NO_ENTRIES, NO_WEBS, WEB, long_way
from tests.test_lasting import NO_RESTS
from tests.test_least import NO_HANDLERS
from tests.test_meddling import NO_KINDS, side_by_side
from tests.test_worth import ENTRIES, NO_LOADS, NO_TERMS, TERMS, some_terms
from tests.webs import grouped, once, some_handler, some_load, some_rest, some_web

GREAT = 10 ** 45
OPPOSITES = {"alike": "unlike", "idle": "not idle", "apart": "meddle"}
OPPOSITES.update({other: one for one, other in OPPOSITES.items()})


def rests_in_all(web):
    return math.prod(len(handler.reachable) for handler in web.handlers)


def some_entries(source, web):
    while True:
        entries = tuple(source.sample(web.kinds, source.randint(1, min(3, len(web.kinds)))))
        try:
            as_one(web, entries)
            return entries
        except TooManyStates:
            pass


class Certified(Case):
    def accepted(self, call, *values, **named):
        """The pair, which the checker accepts, and is the same one again; the opposite is refused."""
        told = call(*values, **named)
        claim, paper = told
        self.assertIs(type(told), tuple)
        self.assertIs(holds(claim, paper), True)
        self.same(call(*values, **named), told)
        if claim[0] in OPPOSITES:
            self.assertIs(holds((OPPOSITES[claim[0]], *claim[1:]), paper), False)
        return claim, paper


class AnyWebs(Certified):
    def webs(self, seed, many, **told):
        source = random.Random(seed)
        for _ in range(many):
            web = some_web(source, size=source.randint(1, 3), **told)
            yield source, web, some_entries(source, web)

    def test_one(self):
        for source, web, entries in self.webs(311, 80):
            claim, paper = self.accepted(certify_one, web, entries)
            self.same(claim, ("one", str(web), entries, str(least(as_one(web, entries)))))
            self.assertIs(so(claim, paper), True)
            self.same(sorted(rest for rest, _ in paper), sorted(come_to(web, entries)))

    def test_alike(self):
        told = [0, 0]
        for source, web, entries in self.webs(312, 80, handlers=3, kinds=4):
            others = [some_web(source, size=2, handlers=3, kinds=4)]
            try:
                others.append(folded(web, tuple(range(source.randint(1, len(web))))))
            except TooManyStates:
                pass
            for other in others:
                own = tuple(entry for entry in entries if entry in other.kinds)
                if own:
                    claim, paper = self.accepted(certify_alike, web, other, own)
                    load = web_parting(web, other, own)
                    self.same(claim, ("alike" if load is None else "unlike", str(web), str(other), own))
                    self.assertIs(so(claim, paper), True)
                    told[load is None] += 1
        self.assertGreater(min(told), 20)

    def test_greatest(self):
        told = {}
        for source, web, entries in self.webs(313, 120):
            terms = some_terms(source, web, entries, source.choice((1, 4, GREAT)))
            claim, paper = self.accepted(certify_greatest, web, entries, terms)
            found = greatest(web, entries, terms)
            if found is None:
                self.same(claim, ("without end", str(web), entries, terms))
                self.assertIs(holds(("never above", *claim[1:], GREAT ** 3), paper), False)
            else:
                self.same(claim, ("never above", str(web), entries, terms, found[0]))
                self.assertIs(holds((*claim[:4], found[0] - 1), paper), False)
                self.assertIs(holds(("above", *claim[1:]), found[1].pairs), False)
                self.assertIs(holds(("above", *claim[1:4], found[0] - 1), found[1].pairs), True)
            self.assertIs(so(claim, paper), True)
            told[claim[0]] = told.get(claim[0], 0) + 1
        self.assertGreater(min(told.values()), 20)
        self.same(len(told), 2)

    def test_run(self):
        for source, web, _ in self.webs(314, 80):
            for most in (3, 100, GREAT):
                rest, load = some_rest(source, web), some_load(source, web.kinds, most)
                try:
                    claim, paper = self.accepted(certify_run, web, load, rest=rest)
                except TooManyRows as error:
                    self.same(error.limit, 20000)
                    self.assertGreater(rests_in_all(web), 12)
                    continue
                outcome = web.run(load, rest=rest)
                self.same(claim, ("run", str(web), rest, load.pairs, outcome.rest, outcome.outs.pairs))
                self.assertLessEqual(len(paper), 20000)
                if len(paper) < 100:
                    self.assertIs(so(claim, paper), True)
                self.assertIs(holds((*claim[:5], (outcome.outs + Load(("x", 1))).pairs), paper), False)

    def test_idle(self):
        told = {}
        for source, web, _ in self.webs(315, 80):
            loads = [some_load(source, web.kinds, most) for most in (3, GREAT)]
            for load in (*loads, loads[0] * rests_in_all(web)):
                try:
                    claim, paper = self.accepted(certify_idle, web, load)
                except TooManyRows as error:
                    self.same(error.limit, 20000)
                    self.assertGreater(rests_in_all(web), 12)
                    continue
                self.same(claim, ("idle" if idle(web, load) else "not idle", str(web), load.pairs))
                told[claim[0]] = told.get(claim[0], 0) + 1
        self.assertGreater(min(told.values()), 20)
        self.same(len(told), 2)

    def test_apart_and_fewest(self):
        source = random.Random(316)
        told = {}
        for _ in range(80):
            kinds = source.sample("abcd", source.randint(2, 4))
            handler = side_by_side(source, kinds) if source.random() < 0.5 else some_handler(source, tuple(kinds), ["x"])
            own = tuple(source.sample(kinds, source.randint(1, len(kinds) - 1)))
            claim, paper = self.accepted(certify_apart, handler, own)
            load = meddling(handler, own)
            self.same(claim, ("apart" if load is None else "meddle", str(handler), own))
            self.assertIs(so(claim, paper), True)
            told[claim[0]] = told.get(claim[0], 0) + 1
            if len(least(handler)) <= 60:
                claim, paper = self.accepted(certify_fewest, handler)
                self.same(claim, ("fewest", str(least(handler))))
                self.assertIs(so(claim, paper), True)
                if len(least(handler)) < len(handler):
                    self.assertIs(holds(("fewest", str(handler)), paper), False)
        self.assertGreater(min(told.values()), 20)


class KnownWebs(Certified):
    def test_the_sample(self):
        web, asks = sample_web(), ("order",)
        claim, paper = self.accepted(certify_alike, web, folded(web, (1, 2)), asks)
        self.same([claim[0], len(paper)], ["alike", 11])
        self.same(self.accepted(certify_one, web, asks)[0][3], str(as_one(web, asks)))
        most, heights = self.accepted(certify_greatest, web, asks, (("order", 3), ("label", -5)))
        self.same([most[0], most[4], len(heights)], ["never above", 5, 11])
        far, rows = self.accepted(certify_run, web, Load(("order", 10 ** 40)))
        self.same([far[5], far[2]], [(("label", 6 * 10 ** 39 - 1),), (0, 0, 0, 0)])
        self.same(self.accepted(certify_idle, web, Load(("box", 4), ("order", 2)))[0][0], "idle")
        turned = Web(dealer("order", ("paint", "cut")), *web.handlers[1:])
        self.same(self.accepted(certify_alike, web, turned, asks),
                  (("unlike", str(web), str(turned), asks), (("order", 5),)))

    def test_by_name(self):
        web = sample_web()
        load = Load(("order", 3))
        self.same(certify_one(entries=("order",), web=web), certify_one(web, ("order",)))
        self.same(certify_alike(entries=("order",), other=web, web=web), certify_alike(web, web, ("order",)))
        self.same(certify_greatest(terms=(("label", 1),), entries=("order",), web=web),
                  certify_greatest(web, ("order",), (("label", 1),)))
        self.same(certify_run(rest=None, load=load, web=web), certify_run(web, load))
        self.same(certify_run(web, load, rest=(0, 0, 0, 0)), certify_run(web, load))
        self.same(certify_idle(load=load, web=web), certify_idle(web, load))
        self.same(certify_apart(kinds=("piece",), handler=web.handlers[2]), certify_apart(web.handlers[2], ("piece",)))
        self.same(certify_fewest(handler=web.handlers[2]), certify_fewest(web.handlers[2]))

    def test_empty_loads(self):
        for web in (sample_web(), WEB):
            claim, paper = self.accepted(certify_run, web, Load())
            self.same(claim[2:], (web.start, (), web.start, ()))
            self.same(paper, ((web.start, (), web.start, (), None),))
            self.same(self.accepted(certify_idle, web, Load())[0][0], "idle")

    def test_what_was_passed_stands_in_the_claim(self):
        class Row(tuple):
            pass

        class Name(str):
            pass

        for call, values in ((certify_one, (WEB, Row(("a", Name("b"))))), (certify_alike, (WEB, WEB, Row(("a",)))),
                             (certify_greatest, (WEB, Row((Name("a"),)), Row((Row((Name("a"), -1)),)))),
                             (certify_run, (WEB, Load((Name("a"), 3)))),
                             (certify_apart, (WEB.handlers[0], Row((Name("a"),))))):
            claim, paper = call(*values)
            self.assertIs(holds(claim, paper), True)
            for value, plain in zip(values[1:], claim[2:]):
                if isinstance(value, tuple):
                    self.assertEqual(value, plain)

    def test_six_hundred_states(self):
        kinds = tuple("abcdefgh")
        handler = Handler(*meter(kinds, (1, 7, 11, 13, 17, 23, 31, 599), 600))
        web = Web(handler)
        claim, paper = self.accepted(certify_one, web, kinds)
        self.same([claim[3], len(paper)], [str(least(handler)), 600])
        load = Load(*[(kind, GREAT + at) for at, kind in enumerate(kinds)])
        self.accepted(certify_run, web, load)
        self.accepted(certify_idle, web, load)
        terms = (("out", -600), ("a", 1), ("b", 7), ("c", 11), ("d", 13), ("e", 17))
        self.same(self.accepted(certify_greatest, web, kinds[:5], terms)[0][4], 599)

    def test_pairs_of_states_that_have_nothing_to_do_with_one_another(self):
        web = Web(every(("a",), 60, "x"), copier("x", Load()))
        other = Web(every(("a",), 59, "x"), copier("x", Load()))
        self.same(len(self.accepted(certify_alike, web, other, ("a",))[1]), 3540)
        rows = tuple(tuple(((state + step) % 60, (("x", step),)) for step in (1, 7)) for state in range(60))
        self.same(len(self.accepted(certify_apart, Handler(("a", "b"), rows), ("b",))[1]), 3600)


class Limits(Certified):
    def test_sixty_states_and_one_more(self):
        self.same(self.accepted(certify_fewest, every(("a",), 60, "x"))[0][1], str(every(("a",), 60, "x")))
        self.fails(TooManyStates, {"limit": 60}, certify_fewest, every(("a",), 61, "x"))
        self.accepted(certify_fewest, dealer("a", ("x",) * 600))
        self.accepted(certify_fewest, dealer("a", (("x",) * 59 + ("y",)) * 10))
        self.fails(TooManyStates, {"limit": 60}, certify_fewest, dealer("a", ("x",) * 60 + ("y",)))

    def test_six_hundred_rests_and_one_more(self):
        web, wide = long_way(599, 1), long_way(600, 1)
        self.accepted(certify_one, web, ("a",))
        self.fails(TooManyStates, {"limit": 600}, certify_one, wide, ("a",))
        self.accepted(certify_alike, web, web, ("a",))
        self.fails(TooManyStates, {"limit": 600}, certify_alike, wide, web, ("a",))
        self.fails(TooManyStates, {"limit": 600}, certify_alike, web, wide, ("a",))
        self.accepted(certify_greatest, web, ("a",), (("a", -1),))
        self.fails(TooManyStates, {"limit": 600}, certify_greatest, wide, ("a",), (("a", -1),))
        self.fails(InvalidTerms, {"index": 0}, certify_greatest, wide, ("a",), (("b", -1),))
        # Here not so many are come to.
        self.accepted(certify_run, wide, Load(("a", GREAT)))

    def test_too_many_rows(self):
        web = Web(*[every((kind,), 600, out) for kind, out in ("ab", "bc", "cx")])
        self.fails(TooManyRows, {"limit": 20000}, certify_run, web, Load(("a", GREAT)))
        self.fails(TooManyRows, {"limit": 20000}, certify_idle, web, Load(("a", GREAT)))
        # A load that leads through few rests does not need many.
        self.same(self.accepted(certify_run, web, Load(("c", GREAT)))[0][4], (0, 0, GREAT % 600))
        self.accepted(certify_run, web, Load(("a", 5000)))
        self.same(self.accepted(certify_idle, web, Load(("a", 600), ("b", 599)))[0][0], "not idle")
        self.same(self.accepted(certify_idle, web, Load(("c", 600)))[0][0], "idle")

    def test_at_most_twelve_rests(self):
        source = random.Random(321)
        many = 0
        while many < 60:
            web = some_web(source, size=source.choice((2, 3, 12)), density=0.5, most=GREAT if many % 2 else 3)
            if rests_in_all(web) <= 12:
                many += 1
                load = some_load(source, web.kinds, GREAT)
                self.accepted(certify_run, web, load, rest=some_rest(source, web))
                self.accepted(certify_idle, web, load)

    def test_twelve_rests_and_as_much_as_can_be_sent(self):
        source = random.Random(322)
        kinds = list("abcdefgh")
        for sizes in ((12,), (6, 2), (4, 3), (3, 2, 2), (2, 2, 3), (2, 2, 2), (11,), (5, 2), (3, 4), (2, 3, 2, 1, 1)):
            handlers = []
            for own, size in zip(grouped(source, kinds, len(sizes)), sizes):
                handlers.append(great_meter(source, own, size, [kind for kind in kinds if kind > own[-1]] + ["x"]))
            web = Web(*handlers)
            self.same(rests_in_all(web), math.prod(sizes))
            load = Load(*[(kind, source.randint(1, GREAT)) for kind in kinds])
            self.accepted(certify_run, web, load, rest=some_rest(source, web))
            self.accepted(certify_idle, web, load)

    def test_long_chains_of_messages(self):
        web = Web(once("a", 2, {"b": 1, "x": 1}), once("b", 6, {"a": 11}))
        self.accepted(certify_run, web, Load(("a", GREAT)), rest=(1, 5))
        web = Web(Handler.read("takes a\n0 a 1 sends 1 a\n1 a 2 sends 1 a\n2 a 3 sends 1 a\n3 a 0 sends 1 x"))
        claim, paper = self.accepted(certify_run, web, Load(("a", GREAT)))
        self.same(claim[4:], ((0,), (("x", GREAT),)))
        many = Web(Handler(("a",), tuple(((at + 1 if at < 599 else 0, (("a", 1),) if at < 599 else ()),)
                                         for at in range(600))))
        self.accepted(certify_run, many, Load(("a", 3)))


def great_meter(source, kinds, size, names):
    """A handler that sends of all names at each step, each time another great number."""
    weights = [source.randrange(size) for _ in kinds]
    weights[source.randrange(len(kinds))] = 1
    heights = [{name: source.randrange(GREAT) for name in names} for _ in range(size)]
    rows = []
    for state in range(size):
        follows = [(state + weight) % size for weight in weights]
        rows.append(tuple((to, tuple((name, 2 * GREAT + heights[to][name] - heights[state][name])
                                     for name in sorted(names))) for to in follows))
    return Handler(tuple(kinds), tuple(rows))


class Refused(Case):
    def test_no_webs(self):
        for value in NO_WEBS:
            for call in (certify_one, certify_run, certify_idle):
                self.fails(NotAWeb, {"value": value}, call, value, None)
            self.fails(NotAWeb, {"value": value}, certify_alike, value, None, None)
            self.fails(NotAWeb, {"value": value}, certify_alike, WEB, value, None)
            self.fails(NotAWeb, {"value": value}, certify_greatest, value, None, None)

    def test_no_entries(self):
        for entries, index in NO_ENTRIES:
            self.fails(InvalidEntries, {"index": index}, certify_one, WEB, entries)
            self.fails(InvalidEntries, {"index": index}, certify_alike, WEB, WEB, entries)
            self.fails(InvalidEntries, {"index": index}, certify_greatest, WEB, entries, None)
        self.fails(InvalidEntries, {"index": 1}, certify_alike, WEB, sample_web().joined(Web(copier("b", Load()))),
                   ("b", "a"))

    def test_no_terms(self):
        for terms, index in NO_TERMS:
            self.fails(InvalidTerms, {"index": index}, certify_greatest, WEB, ENTRIES, terms)
        self.same(certify_greatest(WEB, ENTRIES, TERMS)[0][0], "without end")

    def test_no_loads(self):
        for value in NO_LOADS:
            self.fails(NotALoad, {"value": value}, certify_run, WEB, value)
            self.fails(NotALoad, {"value": value}, certify_run, WEB, value, rest=7)
            self.fails(NotALoad, {"value": value}, certify_idle, WEB, value)
        for text, name in (("1 x", "x"), ("1 a, 1 d, 1 e", "d")):
            self.fails(UnknownKind, {"value": name}, certify_run, WEB, Load.read(text), rest=7)
            self.fails(UnknownKind, {"value": name}, certify_idle, WEB, Load.read(text))

    def test_no_rests(self):
        for value in NO_RESTS:
            if value is not None:
                self.fails(InvalidRest, {"value": value}, certify_run, WEB, Load(("a", GREAT)), rest=value)
        web = Web(*[every((kind,), 600, out) for kind, out in ("ab", "bc", "cx")])
        self.fails(InvalidRest, {"value": (600, 0, 0)}, certify_run, web, Load(("a", GREAT)), rest=(600, 0, 0))

    def test_no_handlers_and_no_kinds(self):
        for value in NO_HANDLERS:
            self.fails(NotAHandler, {"value": value}, certify_apart, value, None)
            self.fails(NotAHandler, {"value": value}, certify_fewest, value)
        for kinds, index in NO_KINDS:
            self.fails(InvalidKinds, {"index": index}, certify_apart, every(("a", "b", "c"), 3, "x"), kinds)
        self.same(parting(every(("a",), 2, "x"), every(("a",), 2, "x")), None)


if __name__ == "__main__":
    unittest.main()
