"""Consoles, promise 4: the lines that they answer."""

import random
import unittest

from everyload.console import Console
from everyload.desks import Desk
from everyload.errors import InvalidEntries, InvalidLine, NotAWeb, TooManyStates
from everyload.folding import as_one, least
from everyload.lasting import idle, lasting_count, period
from everyload.loads import Load
from everyload.samples import copier, every, sample_web
from everyload.webs import Web
from tests.support import STRANGE, Anything, Case, nested
from tests.test_come_to import NO_ENTRIES, NO_WEBS, WEB, long_way
from tests.test_desks import some_desk
from tests.webs import some_load

GREAT = 10 ** 45
# Lines that a console of the sample, for orders and boxes, does not know.
NO_LINES = STRANGE + (
    "", " ", "take", "take ", "take  5 order", " take 5 order", "take 5 order ", "take 5 order\n", "\ntake 5 order",
    "take 5  order", "take 0 order", "take 05 order", "take -5 order", "take +5 order", "take order", "take order 5",
    "take 5", "take 5 cut", "take 5 label", "take 5 order, 1 cut", "take 5 order,1 box", "take 1 order, 1 box",
    "take 1 box,  1 order", "take 1 box; 1 order", "take 1 order, 2 order", "Take 5 order", "TAKE 5 order", "take\t5 order",
    "take 5 Order", "take nothing", "undo ", " undo", "undo 1", "Undo", "undo\n", "rest ", "rest 0", "taken ", "taken 1 box",
    "sent 1", "sent ", "web ", "web 0", "one ", "one order", "ones", "count ", "count 1", "count order", "period",
    "period ", "period  box", "period box ", "period label", "period order box", "period 1 box", "period Box", "idle",
    "idle ", "idle 0 box", "idle box", "idle 1 label", "idle 1 box, 1 label", "idle 1 order, 1 box", "idle  1 box",
    "idle 1 box ", "nothing", "ok", "yes", "fold 1 2", "help", "exit", "take 5 order\nundo", "undo\nundo", "5 order", "take:",
    b"undo", ["undo"], ("undo",), Anything(), nested(29), Load(("order", 1)))


def all_told(console):
    return [console.say(line) for line in ("rest", "taken", "sent", "web", "one", "count")]


class Said(Case):
    def test_the_example(self):
        console = Console(sample_web(), ("order",))
        lines = ["take 5 order", "rest", "take 1 order", "sent", "undo", "taken", "count", "period paint", "idle 10 order"]
        self.same(list(map(console.say, lines)),
                  ["3 label", "1 0 0 1", "nothing", "3 label", "ok", "5 order", "10", "5", "yes"])

    def test_each_form(self):
        web = sample_web()
        console = Console(entries=("order", "box"), web=web)
        self.same(all_told(console), ["0 0 0 0", "nothing", "nothing", str(web),
                                      str(least(as_one(web, ("order", "box")))), "10"])
        self.same(console.say(line="take 1 box, 5 order"), "4 label")
        self.same([console.say("rest"), console.say("taken"), console.say("sent")],
                  ["1 0 1 0", "1 box, 5 order", "4 label"])
        self.same([console.say("undo"), console.say("undo"), console.say("taken")], ["ok", "nothing", "nothing"])
        self.same([console.say("idle 4 box, 2 order"), console.say("idle 1 cut"), console.say("idle 5 cut")],
                  ["yes", "no", "yes"])
        self.same([console.say("period " + kind) for kind in web.kinds], ["10", "5", "5", "5", "5"])
        self.same([console.say("web"), console.say("count")], [str(web), "10"])

    def test_great_loads(self):
        console = Console(sample_web(), ("order",))
        self.same(console.say("take " + str(10 ** 40) + " order"), str(6 * 10 ** 39 - 1) + " label")
        self.same(console.say("taken"), str(10 ** 40) + " order")
        self.same(console.say(f"idle {GREAT} order"), "yes")
        self.same(console.say(f"idle {GREAT} box, {GREAT + 1} order"), "no")
        console = Console(Web(copier("a", Load(("x", GREAT)))), ("a",))
        figures = "1" + "0" * 6000
        self.same(console.say("take " + figures + " a"), figures + "0" * 45 + " x")
        self.same(console.say("sent"), figures + "0" * 45 + " x")

    def test_any_webs(self):
        source = random.Random(341)
        for _ in range(60):
            desk = some_desk(source, size=2)
            web, entries = desk.web, desk.entries
            console = Console(web, entries)
            for _ in range(8):
                if source.random() < 0.7:
                    load = some_load(source, entries, 5)
                    if load:
                        self.same(console.say("take " + str(load)), str(desk.take(load)) or "nothing")
                elif desk.log:
                    self.same(console.say("undo"), "ok")
                    desk.undo()
                self.same(all_told(console), [" ".join(map(str, desk.rest)), str(desk.taken) or "nothing",
                                              str(desk.sent) or "nothing", str(web), str(least(as_one(web, entries))),
                                              str(lasting_count(web))])
            load = some_load(source, web.kinds, 9)
            if load:
                self.same(console.say("idle " + str(load)), "yes" if idle(web, load) else "no")
            for kind in web.kinds:
                self.same(console.say("period " + kind), str(period(web, kind)))

    def test_a_kind_with_the_name_of_a_word(self):
        web = Web(every(("take", "rest"), 2, "undo"), every(("one",), 3, "web"))
        console = Console(web, ("rest", "take"))
        self.same([console.say("take 1 rest, 2 take"), console.say("rest"), console.say("period take")],
                  ["1 undo", "1 0", "2"])
        self.same([console.say("idle 3 one"), console.say("period one"), console.say("count")], ["yes", "3", "6"])

    def test_a_string_of_another_class(self):
        class Line(str):
            pass

        self.same(Console(WEB, ("a",)).say(Line("take 3 a")), "1 x")


class Refused(Case):
    def test_no_lines(self):
        console = Console(sample_web(), ("order", "box"))
        console.say("take 7 order")
        before = all_told(console)
        for line in NO_LINES:
            self.fails(InvalidLine, {"value": line}, console.say, line)
            self.same(console.say("taken"), "7 order")
        self.same(all_told(console), before)
        self.same([console.say("undo"), console.say("undo")], ["ok", "nothing"])

    def test_all_is_looked_at_ahead_of_what_is_done(self):
        console = Console(WEB, ("a",))
        self.fails(InvalidLine, {"value": "undo take 1 a"}, console.say, "undo take 1 a")
        self.fails(InvalidLine, {"value": "take 1 a, 1 b"}, console.say, "take 1 a, 1 b")
        self.same(console.say("taken"), "nothing")

    def test_made(self):
        for value in NO_WEBS:
            self.fails(NotAWeb, {"value": value}, Console, value, None)
        for entries, index in NO_ENTRIES:
            self.fails(InvalidEntries, {"index": index}, Console, WEB, entries)
        self.fails(TooManyStates, {"limit": 600}, Console, long_way(600, 1), ("a",))
        self.same(Console(long_way(599, 1), ("a",)).say("rest"), "0 0")
        self.same(Console(long_way(600, 1), ("b",)).say("rest"), "0 0")

    def test_its_desk_is_its_own(self):
        web = sample_web()
        console, desk = Console(web, ("order",)), Desk(web, ("order",))
        desk.take(Load(("order", 3)))
        self.same([console.say("rest"), Console(web, ("order",)).say("taken")], ["0 0 0 0", "nothing"])
        console.say("take 1 order")
        self.same([str(desk.taken), web], ["3 order", sample_web()])


if __name__ == "__main__":
    unittest.main()
