"""Promise 3: what comes to an end is let in, however many messages it takes; all else is refused."""

import fractions
import random
import unittest

from everyload.errors import Endless
from everyload.handlers import Handler
from everyload.loads import Load
from everyload.samples import copier, dealer, every
from everyload.webs import Web
from tests.support import Case
from tests.webs import once, ring, some_handlers

GREAT = 10 ** 45


def means(handlers):
    """What a message of each kind of some handlers sends of each of these kinds in the mean, told round by round."""
    kinds = [kind for handler in handlers for kind in handler.kinds]
    rows = []
    for handler in handlers:
        for kind in handler.kinds:
            state = handler.after(Load((kind, 600)))[0]
            sent, many = Load(), 0
            begin = state
            while many == 0 or state != begin:
                state, more = handler.step(state, kind)
                sent, many = sent + more, many + 1
            rows.append([fractions.Fraction(sent[name], many) for name in kinds])
    return rows


def comes_to_an_end(handlers):
    """Whether 1 less the means has an inverse in which nothing is below 0: all the messages that each one causes."""
    rows = means(handlers)
    many = len(rows)
    rows = [[int(at == to) - mean for to, mean in enumerate(row)] + [fractions.Fraction(int(at == to))
            for to in range(many)] for at, row in enumerate(rows)]
    for at in range(many):
        chosen = next((to for to in range(at, many) if rows[to][at]), None)
        if chosen is None:
            return False
        rows[at], rows[chosen] = rows[chosen], rows[at]
        rows[at] = [number / rows[at][at] for number in rows[at]]
        for to in range(many):
            if to != at:
                rows[to] = [one - rows[to][at] * other for one, other in zip(rows[to], rows[at])]
    return all(number >= 0 for row in rows for number in row[many:])


class JustEnough(Case):
    def ends(self, *handlers):
        self.assertTrue(comes_to_an_end(handlers))
        self.same(Web(*handlers).handlers, handlers)

    def endless(self, *handlers):
        self.assertFalse(comes_to_an_end(handlers))
        self.fails(Endless, {}, Web, *handlers)

    def test_to_itself(self):
        for states in (1, 2, 3, 7, 599, 600):
            for at in {0, states // 2, states - 1}:
                sends = [{}] * states
                sends[at] = {"a": states - 1} if states > 1 else {}
                self.ends(ring("a", sends))
                sends[at] = {"a": states}
                self.endless(ring("a", sends))
                sends[at] = {"a": states + 1}
                self.endless(ring("a", sends))

    def test_to_itself_one_by_one(self):
        self.ends(ring("a", [{"a": 1}] * 599 + [{}]))
        self.endless(ring("a", [{"a": 1}] * 600))
        self.ends(ring("a", [{"a": 2}] * 299 + [{"a": 1}] + [{}] * 300))
        self.endless(ring("a", [{"a": 2}] * 300 + [{}] * 300))

    def test_there_and_back(self):
        self.ends(dealer("a", ("b",) * 2), once("b", 2, {"a": 1}))
        self.endless(copier("a", Load(("b", 2))), once("b", 2, {"a": 1}))
        self.ends(copier("a", Load(("b", 2))), once("b", 3, {"a": 1}))
        self.ends(ring("a", [{"b": 1}] * 599 + [{}]), ring("b", [{"a": 1}] * 599 + [{"a": 2}]))
        self.endless(ring("a", [{"b": 1}] * 600), ring("b", [{"a": 1}] * 600))
        self.endless(ring("a", [{"b": 1}] * 599 + [{}]), ring("b", [{"a": 1}] * 598 + [{"a": 2}] * 2))

    def test_five_handlers(self):
        for states in (2, 5, 600):
            chain = [every((kind,), states, out) for kind, out in ("ab", "bc", "cd", "de")]
            self.ends(*chain, once("e", states, {"a": states ** 5 - 1}))
            self.endless(*chain, once("e", states, {"a": states ** 5}))

    def test_kinds_of_one_handler(self):
        rows = (((1, ()), (1, ())), ((0, (("a", 1),)), (0, (("a", 1),))))
        self.ends(Handler(("a", "b"), rows))
        rows = (((1, ()), (1, ())), ((0, (("a", 2),)), (0, (("a", 2),))))
        self.endless(Handler(("a", "b"), rows))
        rows = (((1, ()), (1, ())), ((0, (("a", 1), ("b", 1))),) * 2)
        self.endless(Handler(("a", "b"), rows))
        self.endless(Handler(("a", "b"), (((0, (("b", 1),)), (0, (("a", 1),))),)))
        self.ends(Handler(("a", "b"), (((0, (("b", GREAT),)), (0, ())),)))

    def test_great_counts_without_a_way_back(self):
        self.ends(copier("a", Load(("b", GREAT))), copier("b", Load(("c", GREAT))), copier("c", Load(("x", GREAT))))
        self.endless(copier("a", Load(("b", GREAT))), copier("b", Load(("c", GREAT))), every(("c",), 600, "a"))
        self.ends(copier("a", Load(("b", 600 ** 2 - 1))), every(("b",), 600, "c"), every(("c",), 600, "a"))
        self.endless(copier("a", Load(("b", 600 ** 2))), every(("b",), 600, "c"), every(("c",), 600, "a"))

    def test_some_rounds_and_no_more(self):
        self.ends(Handler.read(f"takes a\n0 a 1 sends {GREAT} a\n1 a 2 sends {GREAT} a\n2 a 2"))
        self.endless(Handler.read("takes a\n0 a 1\n1 a 2\n2 a 2 sends 1 a"))

    def test_states_to_which_nothing_leads(self):
        self.ends(Handler.read("takes a\n0 a 0\n1 a 1 sends 1 a\n2 a 0 sends 7 a"))
        self.ends(Handler.read("takes a b\n0 a 0\n0 b 0 sends 1 a\n1 a 0 sends 1 b\n1 b 1 sends 1 b"))

    def test_a_kind_that_is_only_sent_for_ever_by_another(self):
        # Only a load of some `b` runs for ever, and only behind the first of them.
        self.endless(Handler.read("takes b\n0 b 1\n1 b 1 sends 1 c"), copier("c", Load(("b", 1))))
        self.ends(Handler.read("takes b\n0 b 1 sends 9 c\n1 b 1"), copier("c", Load(("b", 1))))

    def test_part_of_a_web(self):
        self.endless(dealer("a", ("x",)), copier("b", Load(("b", 1))))
        self.endless(dealer("a", ("b",)), copier("c", Load(("d", 1), ("x", 1))), every(("d", "e"), 1, "c"))


class AnyHandlers(Case):
    def test_any_handlers(self):
        source = random.Random(11)
        told = [0, 0]
        for size, density, most, rounds in ((2, 0.3, 1, 500), (3, 0.3, 3, 500), (5, 0.1, 5, 300), (4, 0.5, 1, 300)):
            for _ in range(rounds):
                handlers = some_handlers(source, size=size, density=density, most=most)
                expected = comes_to_an_end(handlers)
                told[expected] += 1
                if expected:
                    self.same(Web(*handlers).handlers, tuple(handlers))
                else:
                    self.fails(Endless, {}, Web, *handlers)
        self.assertGreater(min(told), 100)

    def test_refused_webs_run_for_ever(self):
        """For these, by hand: a load that comes back as it was, at states that come back as they were."""
        one = ring("a", [{"b": 1}] * 3 + [{}])
        other = ring("b", [{"a": 1}] * 2 + [{"a": 2}])
        self.fails(Endless, {}, Web, one, other)
        self.same(one.after(Load(("a", 4))), (0, Load(("b", 3))))
        self.same(other.after(Load(("b", 3))), (0, Load(("a", 4))))


if __name__ == "__main__":
    unittest.main()
