"""Promises 2 and 3: webs, what they tell, and the handlers that they refuse."""

import random
import unittest

from everyload.errors import Endless, InvalidHandlers, NotAWeb, TooManyKinds, UnknownKind
from everyload.handlers import Handler
from everyload.loads import Load
from everyload.samples import copier, dealer, every, sample_web
from everyload.webs import Web
from tests.support import STRANGE, Anything, Case, nested
from tests.webs import some_handlers, some_web

NO_WEBS = STRANGE + ("takes a\n0 a 0", Anything(), nested(30), Load(), dealer("a", ("b",)), (dealer("a", ("b",)),))
FIVE = tuple(copier(kind, Load(("x", 1))) for kind in "abcde")


class Telling(Case):
    def test_what_a_web_tells(self):
        one, other = every(("c", "a"), 2, "b"), Handler.read("takes b\n0 b 1 sends 2 y\n1 b 0 sends 1 d, 1 y")
        web = Web(one, other)
        self.same(web.handlers, (one, other))
        self.same([web.kinds, web.outs, web.start, len(web)], [("c", "a", "b"), ("d", "y"), (0, 0), 2])
        self.same(repr(web), "Web(2 handlers, 3 kinds)")
        self.same(str(web), str(one) + "\nand\n" + str(other))
        self.assertTrue(web)

    def test_one_handler(self):
        web = Web(dealer("a", ("b",)))
        self.same([web.kinds, web.outs, web.start, len(web)], [("a",), ("b",), (0,), 1])
        self.same([repr(web), str(web)], ["Web(1 handlers, 1 kinds)", "takes a\n0 a 0 sends 1 b"])

    def test_five_handlers(self):
        web = Web(*FIVE)
        self.same([web.handlers, web.kinds, web.start], [FIVE, ("a", "b", "c", "d", "e"), (0,) * 5])
        self.same(repr(web), "Web(5 handlers, 5 kinds)")

    def test_eight_kinds(self):
        web = Web(every(("h", "a", "c"), 600, "x"), every(("b", "d", "e", "f"), 2, "a"), every(("g",), 2, "b"))
        self.same(web.kinds, ("h", "a", "c", "b", "d", "e", "f", "g"))
        self.same([repr(web), web.outs], ["Web(3 handlers, 8 kinds)", ("x",)])

    def test_outs_are_what_reachable_states_send(self):
        handler = Handler.read("takes a\n0 a 2 sends 1 p\n1 a 0 sends 1 q\n2 a 2 sends 1 b, 1 c")
        self.same(Web(handler).outs, ("b", "c", "p"))
        self.same(Web(copier("b", Load(("z", 1))), handler).outs, ("c", "p", "z"))
        self.same(Web(copier("p", Load()), copier("b", Load()), copier("c", Load()), handler).outs, ())

    def test_any_web(self):
        source = random.Random(1)
        for _ in range(100):
            web = some_web(source)
            kinds = tuple(kind for handler in web.handlers for kind in handler.kinds)
            sent = {name for handler in web.handlers for name in handler.sent}
            self.same([web.kinds, web.outs], [kinds, tuple(sorted(sent - set(kinds)))])
            self.same([web.start, len(web)], [(0,) * len(web.handlers), len(web.handlers)])
            self.same(repr(web), f"Web({len(web.handlers)} handlers, {len(kinds)} kinds)")
            self.same(str(web), "\nand\n".join(map(str, web.handlers)))

    def test_equality(self):
        web = Web(FIVE[0], FIVE[1])
        self.assertTrue(web == Web(FIVE[0], copier("b", Load(("x", 1)))))
        self.assertFalse(web != Web(*FIVE[:2]))
        for other in (Web(FIVE[1], FIVE[0]), Web(FIVE[0]), Web(FIVE[0], copier("b", Load())), Web(*FIVE[:3])):
            self.assertFalse(web == other)
            self.assertTrue(web != other)
        for value in NO_WEBS + ((FIVE[0], FIVE[1]), str(web), repr(web)):
            if not isinstance(value, Anything):
                self.assertIs(web == value, False)
                self.assertIs(web != value, True)

    def test_a_web_never_changes(self):
        web = sample_web()
        for name in ("handlers", "kinds", "outs", "start"):
            with self.assertRaises(AttributeError):
                setattr(web, name, ())
        web.run(Load(("order", 10 ** 40)))
        web.joined(Web(FIVE[0]))
        self.same(web, sample_web())


class Places(Case):
    def test_places(self):
        web = sample_web()
        self.same([web.place(kind) for kind in web.kinds], [0, 1, 2, 2, 3])
        self.same(web.place(kind="box"), 3)

    def test_unknown_kinds(self):
        for value in STRANGE + ("label", "orde", "orderx", "Order", ("order",), Anything(), nested(30), Load()):
            self.fails(UnknownKind, {"value": value}, sample_web().place, value)


class Joined(Case):
    def test_joined(self):
        one, other = Web(FIVE[0], FIVE[2]), Web(FIVE[1])
        self.same(one.joined(other), Web(FIVE[0], FIVE[2], FIVE[1]))
        self.same(other.joined(other=one), Web(FIVE[1], FIVE[0], FIVE[2]))
        self.same([one, other], [Web(FIVE[0], FIVE[2]), Web(FIVE[1])])

    def test_outs_may_become_kinds(self):
        web = Web(dealer("a", ("b", "c"))).joined(Web(every(("b",), 2, "d")))
        self.same([web.kinds, web.outs], [("a", "b"), ("c", "d")])
        self.same(web.run(Load(("a", 4))).outs, Load(("c", 2), ("d", 1)))

    def test_no_webs(self):
        for value in NO_WEBS:
            self.fails(NotAWeb, {"value": value}, sample_web().joined, value)

    def test_to_itself(self):
        self.fails(InvalidHandlers, {"index": 1}, Web(FIVE[0]).joined, Web(FIVE[0]))
        self.fails(InvalidHandlers, {"index": 2}, Web(*FIVE[:2]).joined, Web(*FIVE[:2]))
        self.fails(InvalidHandlers, {"index": None}, Web(*FIVE[:3]).joined, Web(*FIVE[:3]))
        self.fails(InvalidHandlers, {"index": None}, sample_web().joined, sample_web())

    def test_refused(self):
        self.fails(InvalidHandlers, {"index": None}, Web(*FIVE).joined, Web(copier("f", Load())))
        self.fails(InvalidHandlers, {"index": 3}, Web(*FIVE[:2]).joined, Web(copier("f", Load()), FIVE[1]))
        five = every(("a", "b", "c", "d", "e"), 2, "x")
        self.fails(TooManyKinds, {"limit": 8}, Web(five).joined, Web(every(("f", "g", "h", "i"), 2, "a")))
        self.same(len(Web(five).joined(Web(every(("f", "g", "h"), 2, "x"))).kinds), 8)
        self.fails(Endless, {}, Web(copier("a", Load(("b", 1)))).joined, Web(copier("b", Load(("a", 1)))))


class Refused(Case):
    def test_none_and_six(self):
        self.fails(InvalidHandlers, {"index": None}, Web)
        self.fails(InvalidHandlers, {"index": None}, Web, *FIVE, copier("f", Load()))
        self.fails(InvalidHandlers, {"index": None}, Web, *[None] * 6)
        self.fails(InvalidHandlers, {"index": None}, Web, *[FIVE[0]] * 6)

    def test_no_handlers(self):
        for value in NO_WEBS:
            if not isinstance(value, Handler):
                self.fails(InvalidHandlers, {"index": 0}, Web, value)
                self.fails(InvalidHandlers, {"index": 0}, Web, value, FIVE[0], FIVE[0])
                self.fails(InvalidHandlers, {"index": 4}, Web, *FIVE[:4], value)
        self.fails(InvalidHandlers, {"index": 1}, Web, FIVE[0], Web(FIVE[1]))

    def test_kinds_of_earlier_ones(self):
        self.fails(InvalidHandlers, {"index": 1}, Web, FIVE[0], FIVE[0])
        self.fails(InvalidHandlers, {"index": 2}, Web, FIVE[0], FIVE[1], every(("c", "a"), 2, "x"), None)
        self.fails(InvalidHandlers, {"index": 3}, Web, FIVE[0], every(("b", "c"), 2, "x"), FIVE[3], FIVE[2], FIVE[4])

    def test_too_many_kinds(self):
        four, five = every(("a", "b", "c", "d"), 2, "x"), every(("e", "f", "g", "h", "i"), 2, "x")
        self.fails(TooManyKinds, {"limit": 8}, Web, four, five)
        self.same(len(Web(four, every(("e", "f", "g", "h"), 2, "x")).kinds), 8)

    def test_the_first_error_that_is_due(self):
        eight = every(("a", "b", "c", "d", "e", "f", "g", "h"), 1, "a")
        self.fails(InvalidHandlers, {"index": 2}, Web, eight, copier("i", Load()), FIVE[0])
        self.fails(InvalidHandlers, {"index": 2}, Web, eight, copier("i", Load()), "takes j\n0 j 0")
        self.fails(TooManyKinds, {"limit": 8}, Web, eight, copier("i", Load(("i", 1))))
        self.fails(Endless, {}, Web, eight)

    def test_any_handlers_that_are_let_in_stand_in_the_web(self):
        source = random.Random(2)
        for _ in range(50):
            handlers = some_handlers(source)
            try:
                self.same(Web(*handlers).handlers, tuple(handlers))
            except Endless:
                pass


if __name__ == "__main__":
    unittest.main()
