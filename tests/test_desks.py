"""Desks, promise 8: what they take and send, exchange and fold, and undo."""

import random
import unittest

from everyload.desks import Desk, attempt
from everyload.errors import Endless, InvalidEntries, InvalidHandlers, InvalidIndexes, InvalidNumber, NotAHandler
from everyload.errors import NotALoad, NotAWeb, NothingToUndo, Refused, TooManyKinds, TooManyStates, UnknownKind
from everyload.alike import web_parting
from everyload.folding import folded, least
from everyload.handlers import Handler
from everyload.loads import Load
from everyload.samples import copier, dealer, every, sample_web
from everyload.webs import Web
from tests.support import STRANGE, Anything, Case, nested
from tests.test_come_to import NO_ENTRIES, NO_WEBS, WEB, long_way
from tests.test_least import NO_HANDLERS
from tests.test_worth import NO_LOADS
from tests.webs import load_of, one_by_one, some_load, some_web

GREAT = 10 ** 45


def told(desk):
    """All that a desk tells of itself."""
    return (desk.web, desk.first, desk.entries, desk.rest, desk.taken, desk.sent, desk.log, desk.busy, len(desk),
            repr(desk))


def twice_as_many(handler):
    """A handler that does the same with twice as many states: it also counts its messages by twos."""
    many = len(handler)
    rows = []
    for state in range(2 * many):
        row = handler.rows[state % many]
        rows.append(tuple((follows + (many if state < many else 0), pairs) for follows, pairs in row))
    return Handler(handler.kinds, tuple(rows))


def without(handler, name):
    """The handler that sends nothing of a name."""
    rows = [[(follows, tuple(pair for pair in pairs if pair[0] != name)) for follows, pairs in row]
            for row in handler.rows]
    return Handler(handler.kinds, tuple(map(tuple, rows)))


def some_desk(source, **more):
    while True:
        web = some_web(source, **more)
        entries = tuple(source.sample(web.kinds, source.randint(1, min(3, len(web.kinds)))))
        try:
            return Desk(web, entries)
        except TooManyStates:
            pass


def some_deed(source, desk):
    """A deed that the desk does not refuse."""
    word = source.choice(("take", "take", "exchange", "fold"))
    if word == "take":
        return ("take", some_load(source, desk.entries, source.choice((2, 5))))
    if word == "fold":
        places = tuple(place for place in range(len(desk.web)) if source.random() < 0.6)
        return ("fold", places or (0,))
    place = source.randrange(len(desk.web))
    handler = desk.web.handlers[place]
    return ("exchange", place, source.choice((least(handler), twice_as_many(handler), handler)))


def do(desk, deed):
    return getattr(desk, deed[0])(*deed[1:])


class Service(Case):
    def holds_to(self, desk, first, log):
        """The desk has sent what its first web would have sent, and stands where its web would stand."""
        taken = Load()
        for deed in log:
            taken = taken + deed[1] if deed[0] == "take" else taken
        self.same([desk.first, desk.taken, desk.log, len(desk)], [first, taken, tuple(log), len(log)])
        self.same(desk.sent, one_by_one(first, taken, first.start)[1])
        self.same(desk.rest, one_by_one(desk.web, taken, desk.web.start)[0])
        self.same(repr(desk), f"Desk({len(log)} deeds)")
        self.assertIs(desk.busy, False)

    def test_any_deeds(self):
        source = random.Random(261)
        words = set()
        for _ in range(60):
            desk = some_desk(source, size=2)
            first, entries, log = desk.web, desk.entries, []
            self.holds_to(desk, first, log)
            for _ in range(6):
                deed = some_deed(source, desk)
                sent = desk.sent
                try:
                    answer = do(desk, deed)
                except TooManyStates:
                    self.same(deed[0], "fold")
                    continue
                if deed[0] == "take":
                    self.same(sent + answer, desk.sent)
                else:
                    self.same(answer, None)
                words.add(deed[0])
                log.append(deed)
                self.holds_to(desk, first, log)
                self.same(desk.entries, entries)
        self.same(words, {"take", "exchange", "fold"})

    def test_great_loads(self):
        source = random.Random(262)
        for _ in range(60):
            desk = some_desk(source, size=2)
            first = desk.web
            for _ in range(5):
                do(desk, ("take", some_load(source, desk.entries, GREAT)))
                place = source.randrange(len(desk.web))
                do(desk, ("exchange", place, twice_as_many(desk.web.handlers[place])))
                do(desk, ("exchange", place, least(desk.web.handlers[place])))
            self.same([desk.sent, desk.first], [first.run(desk.taken).outs, first])
            self.same(desk.rest, desk.web.run(desk.taken).rest)

    def test_the_examples(self):
        desk = Desk(sample_web(), ("order",))
        self.same([str(desk.take(Load(("order", 7)))), desk.fold((1, 2)), str(desk(Load(("order", 3))))],
                  ["4 label", None, "1 label"])
        self.same([str(desk.sent), desk.rest, len(desk.web), len(desk)], ["5 label", (0, 1, 1), 3, 3])
        self.fails(Refused, {"load": Load(("order", 5))}, Desk(sample_web(), ("order",)).exchange, 0,
                   dealer("order", ("paint", "cut")))

    def test_without_deeds(self):
        desk = Desk(entries=("b", "a"), web=WEB)
        self.same(told(desk), (WEB, WEB, ("b", "a"), (0, 0), Load(), Load(), (), False, 0, "Desk(0 deeds)"))
        self.same(bool(desk), False)
        desk.take(load=Load())
        self.same([len(desk), bool(desk), desk.log, repr(desk)], [1, True, (("take", Load()),), "Desk(1 deeds)"])

    def test_two_desks_have_nothing_to_do_with_one_another(self):
        web = sample_web()
        one, other = Desk(web, ("order",)), Desk(web, ("order",))
        one.take(Load(("order", 3)))
        self.same([one.rest, other.rest, len(other)], [(1, 0, 2, 1), (0, 0, 0, 0), 0])
        self.same([one == other, one == one, one != other, web], [False, True, True, sample_web()])

    def test_by_name(self):
        desk = Desk(WEB, ("a",))
        self.same(desk(load=Load(("a", 3))), Load(("x", 1)))
        self.same(desk.exchange(handler=dealer("c", ("x", "y", "x", "y")), place=1), None)
        self.same([desk.rest, desk.fold(places=(0, 1)), len(desk.web)], [(0, 1), None, 1])
        self.same([deed[0] for deed in desk.log], ["take", "exchange", "fold"])


class Exchanged(Case):
    def test_another_kind_of_handler(self):
        desk = Desk(sample_web(), ("order",))
        desk.take(Load(("order", 3)))
        # It also counts what it never gets.
        other = Handler.read("takes cut none\n0 cut 0 sends 2 piece\n0 none 1\n1 cut 1 sends 2 piece\n1 none 0")
        self.same(desk.exchange(1, other), None)
        self.same([desk.web.handlers[1], desk.rest, desk.web.kinds[1:3]], [other, (1, 0, 2, 1), ("cut", "none")])
        self.same(desk.log[-1], ("exchange", 1, other))

    def test_a_handler_that_the_entries_do_not_come_to(self):
        desk = Desk(sample_web(), ("cut",))
        for handler in (dealer("order", ("box", "x")), every(("u", "v", "w"), 600, "paint"), copier("x", Load()),
                        every(("order",), 2, "label")):
            desk.exchange(0, handler)
            self.same(desk.web.handlers[0], handler)
        self.fails(InvalidHandlers, {"index": 1}, desk.exchange, 0, copier("cut", Load()))
        self.same(str(desk.take(Load(("cut", 3)))), "2 label")

    def test_the_first_load_that_parts_them(self):
        source = random.Random(263)
        told_of = [0, 0]
        for _ in range(150):
            desk = some_desk(source, size=2, handlers=3, kinds=4)
            for _ in range(3):
                do(desk, ("take", some_load(source, desk.entries, 3)))
                place = source.randrange(len(desk.web))
                handlers = list(desk.web.handlers)
                handlers[place] = without(handlers[place], source.choice(("out", "x", *desk.web.kinds)))
                before = told(desk)
                try:
                    load = web_parting(desk.web, Web(*handlers), desk.entries)
                except (Endless, TooManyStates):
                    continue
                told_of[load is None] += 1
                if load is None:
                    desk.exchange(place, handlers[place])
                    self.same(desk.web, Web(*handlers))
                else:
                    self.fails(Refused, {"load": load}, desk.exchange, place, handlers[place])
                    self.same(told(desk), before)
        self.assertGreater(min(told_of), 10)

    def test_it_is_the_start_that_counts(self):
        # From where the desk stands the two do the same; but its first web did not come there without notice.
        web = Web(Handler.read("takes a\n0 a 1 sends 1 x\n1 a 1"))
        desk = Desk(web, ("a",))
        desk.take(Load(("a", 1)))
        self.fails(Refused, {"load": Load(("a", 1))}, desk.exchange, 0, copier("a", Load()))

    def test_the_rest_is_that_of_all_that_was_taken(self):
        desk = Desk(Web(copier("a", Load(("x", 1)))), ("a",))
        desk.take(Load(("a", 4)))
        desk.take(Load(("a", GREAT)))
        desk.exchange(0, dealer("a", ("x",) * 7))
        self.same(desk.rest, ((GREAT + 4) % 7,))
        desk.exchange(0, Handler(("a",), (((1, (("x", 1),)),), ((2, (("x", 1),)),), ((2, (("x", 1),)),))))
        self.same([desk.rest, desk(Load(("a", 2)))], [(2,), Load(("x", 2))])

    def test_errors(self):
        desk = Desk(sample_web(), ("order", "box"))
        before = told(desk)
        for value in STRANGE + (4, -1, "0", (0,), Anything(), nested(29), Load()):
            self.fails(InvalidNumber, {"value": value}, desk.exchange, value, None)
        for value in NO_HANDLERS:
            self.fails(NotAHandler, {"value": value}, desk.exchange, 0, value)
        self.fails(InvalidHandlers, {"index": 1}, desk.exchange, 0, every(("cut", "order"), 2, "x"))
        self.fails(InvalidHandlers, {"index": 3}, desk.exchange, 3, every(("box", "paint"), 2, "x"))
        self.fails(TooManyKinds, {"limit": 8}, desk.exchange, 0, every(("order", "b", "c", "d", "e"), 2, "x"))
        self.fails(Endless, {}, desk.exchange, 3, copier("box", Load(("paint", 3))))
        self.fails(Endless, {}, desk.exchange, 3, copier("other", Load(("other", 1))))
        self.fails(UnknownKind, {"value": "order"}, desk.exchange, 0, dealer("b", ("cut", "paint")))
        self.fails(UnknownKind, {"value": "box"}, desk.exchange, 3, dealer("b", ("cut", "paint")))
        self.fails(Refused, {"load": Load(("box", 1))}, desk.exchange, 3, copier("box", Load()))
        self.same(told(desk), before)

    def test_the_first_entry_that_is_no_kind(self):
        web = Web(every(("a", "b", "c"), 2, "x"), copier("d", Load()))
        for entries, name in ((("c", "d", "a"), "c"), (("d", "a", "b"), "a"), (("d", "b"), "b")):
            self.fails(UnknownKind, {"value": name}, Desk(web, entries).exchange, 0, copier("u", Load()))

    def test_too_many_states(self):
        desk = Desk(long_way(599, 1), ("a",))
        self.same([len(desk), desk.take(Load(("a", 598)))], [0, Load()])
        wide = Handler(("b",), (((1, ()),), ((2, ()),), ((2, ()),)))
        self.fails(TooManyStates, {"limit": 600}, desk.exchange, 1, wide)
        # This is looked at ahead of what parts the two.
        loud = Handler(("b",), (((1, (("x", 1),)),), ((2, ()),), ((2, ()),)))
        self.fails(TooManyStates, {"limit": 600}, desk.exchange, 1, loud)
        self.fails(UnknownKind, {"value": "a"}, desk.exchange, 0, every(("c",), 600, "b"))
        self.same(desk.exchange(1, copier("b", Load())), None)


class Folded(Case):
    def test_it_is_the_folded_web(self):
        source = random.Random(264)
        for _ in range(60):
            desk = some_desk(source, size=2)
            do(desk, ("take", some_load(source, desk.entries, 9)))
            places = tuple(place for place in range(len(desk.web)) if source.random() < 0.6) or (0,)
            try:
                web = folded(desk.web, places)
            except TooManyStates:
                before = told(desk)
                self.fails(TooManyStates, {"limit": 600}, desk.fold, places)
                self.same(told(desk), before)
                continue
            self.same(desk.fold(places), None)
            self.same([desk.web, desk.rest, desk.log[-1]], [web, web.run(desk.taken).rest, ("fold", places)])

    def test_errors(self):
        desk = Desk(WEB, ("a",))
        for places in STRANGE[:6] + ("0", [0], [0, 1], {0: 1}, (), range(2), Load(), Anything()):
            self.fails(InvalidIndexes, {"index": None}, desk.fold, places)
        for places, index in (((0, 0), 1), ((1, 0), 1), ((2,), 0), ((0, 1, 1), 2), ((0, True), 1), ((-1, 0), 0)):
            self.fails(InvalidIndexes, {"index": index}, desk.fold, places)
        self.same(told(desk), told(Desk(WEB, ("a",))))
        web = Web(every(("a",), 25, "x"), every(("b",), 25, "x"), copier("c", Load(("a", 25), ("b", 25))))
        desk = Desk(web, ("c",))
        self.fails(TooManyStates, {"limit": 600}, desk.fold, (0, 1))
        self.fails(InvalidIndexes, {"index": 2}, desk.fold, (0, 1, 3))
        self.same([desk.fold((0, 2)), len(desk.web)], [None, 2])


class Undone(Case):
    def test_each_deed_in_its_turn(self):
        source = random.Random(265)
        for _ in range(40):
            desk = some_desk(source, size=2)
            seen = [told(desk)]
            for _ in range(source.randint(0, 6)):
                try:
                    do(desk, some_deed(source, desk))
                    seen.append(told(desk))
                except TooManyStates:
                    pass
            while len(seen) > 1:
                seen.pop()
                self.same(desk.undo(), None)
                self.same(told(desk), seen[-1])
                if source.random() < 0.2:
                    desk.take(Load())
                    seen.append(told(desk))
            self.fails(NothingToUndo, {}, desk.undo)
            self.same(told(desk), seen[0])

    def test_behind_the_last_deed(self):
        desk = Desk(WEB, ("a",))
        self.fails(NothingToUndo, {}, desk.undo)
        desk.take(Load(("a", 1)))
        desk.undo()
        self.fails(NothingToUndo, {}, desk.undo)
        self.same(told(desk), told(Desk(WEB, ("a",))))


class Made(Case):
    def test_no_webs(self):
        for value in NO_WEBS:
            self.fails(NotAWeb, {"value": value}, Desk, value, None)

    def test_no_entries(self):
        for entries, index in NO_ENTRIES:
            self.fails(InvalidEntries, {"index": index}, Desk, WEB, entries)

    def test_six_hundred_and_one_more(self):
        self.same(Desk(long_way(599, 1), ("a",)).rest, (0, 0))
        self.same(Desk(long_way(600, 1), ("b",)).rest, (0, 0))
        self.fails(TooManyStates, {"limit": 600}, Desk, long_way(600, 1), ("a",))
        self.fails(InvalidEntries, {"index": 1}, Desk, long_way(600, 1), ("a", "a"))

    def test_no_loads(self):
        desk = Desk(WEB, ("b",))
        for value in NO_LOADS:
            self.fails(NotALoad, {"value": value}, desk.take, value)
            self.fails(NotALoad, {"value": value}, desk, value)
        for text, name in (("1 a", "a"), ("1 a, 2 b, 1 c", "a"), ("1 b, 1 c", "c"), ("4 x", "x")):
            self.fails(UnknownKind, {"value": name}, desk.take, Load.read(text))
            self.fails(UnknownKind, {"value": name}, desk, Load.read(text))
        self.same(told(desk), told(Desk(WEB, ("b",))))

    def test_what_act_returns(self):
        desk = Desk(WEB, ("a",))
        thing = object()
        self.assertIs(attempt(desk, lambda same: thing), thing)
        self.same(attempt(act=lambda same: str(same.take(load_of({"a": 3}))), desk=desk), "1 x")
        self.same(told(desk), told(Desk(WEB, ("a",))))


if __name__ == "__main__":
    unittest.main()
