"""Promise 7: what a handler does for a load of any size."""

import itertools
import random
import unittest

from everyload.errors import InvalidNumber, NotALoad, UnknownKind
from everyload.handlers import Handler
from everyload.loads import Load
from tests.support import STRANGE, Anything, Case, nested
from tests.tables import all_tables, deliver, heeding, meter, tail

GREAT = 10 ** 45


def load_of(counts):
    return Load(*[(name, count) for name, count in counts.items() if count > 0])


class OneByOne(Case):
    def agrees(self, kinds, rows, most):
        """For all small loads, from all reachable states, with the messages in some order."""
        handler = Handler(kinds, rows)
        source = random.Random(3)
        for state in handler.reachable:
            for counts in itertools.product(range(most + 1), repeat=len(kinds)):
                messages = [kind for kind, count in zip(kinds, counts) for _ in range(count)]
                source.shuffle(messages)
                behind, sent = deliver(rows, kinds, messages, state)
                load = load_of(dict(zip(kinds, counts)))
                self.same(handler.after(load, state=state), (behind, load_of(sent)))
                if state == 0:
                    self.same(handler.after(load), (behind, load_of(sent)))

    def test_all_tables_of_two_states(self):
        for rows in all_tables(2, 2, ((), (("a", 1),))):
            if heeding(("b", "a"), rows) is None:
                self.agrees(("b", "a"), rows, 3)

    def test_meters(self):
        self.agrees(*meter(("a", "b"), (1, 1), 3), 7)
        self.agrees(*meter(("b", "a", "c"), (2, 3, 5), 6, "a", ((), (("z", 2),), (("a", 1), ("b", 3)))), 4)
        self.agrees(*meter(("a",), (5,), 12), 40)

    def test_ways_into_rings(self):
        for length, ring in ((0, 1), (0, 5), (1, 1), (3, 1), (4, 3), (7, 7)):
            self.agrees(*tail(length, ring), 40)


class Great(Case):
    def test_closed_forms(self):
        handler = Handler(*meter(("a", "b"), (1, 7), 600))
        for one, other in ((0, 0), (GREAT, 0), (0, GREAT), (GREAT - 1, GREAT - 7), (10 ** 60, 10 ** 59 + 1), (1, 599)):
            for state in (0, 1, 599):
                sent, behind = divmod(state + one + 7 * other, 600)
                load = load_of({"a": one, "b": other})
                self.same(handler.after(load, state=state), (behind, load_of({"out": sent})))

    def test_ways_into_rings(self):
        kinds, rows = tail(4, 7)
        handler = Handler(kinds, rows)
        for more in range(7):
            behind, sent = handler.after(Load(("a", 4 + 7 * GREAT + more)))
            self.same(behind, 4 + more)
            counts = [sent["s" + str(state)] for state in range(11)]
            self.same(counts, [1] * 4 + [GREAT + 1] * more + [GREAT] * (7 - more))
            self.same(sent["x"], sum((state + 1) * count for state, count in enumerate(counts)))

    def test_halves_behind_one_another(self):
        handler = Handler(*meter(("b", "a", "c"), (2, 3, 5), 77, "a", ((), (("z", 2),), (("a", 1), ("b", 3)))))
        one = Load(("a", GREAT + 1), ("b", GREAT // 7), ("c", 3))
        other = Load(("a", 5), ("b", GREAT - 3), ("c", GREAT * GREAT))
        middle, sent = handler.after(one)
        behind, more = handler.after(other, state=middle)
        self.same(handler.after(one + other), (behind, sent + more))
        self.same(handler.after(other + one), (behind, sent + more))

    def test_many_states_and_kinds(self):
        kinds = ("a", "b", "c", "d", "e", "f", "g", "h")
        handler = Handler(*meter(kinds, (1, 2, 3, 4, 5, 6, 7, 599), 600))
        load = Load(*[(kind, GREAT + at) for at, kind in enumerate(kinds)])
        moved = sum(weight * load[kind] for kind, weight in zip(kinds, (1, 2, 3, 4, 5, 6, 7, 599)))
        self.same(handler.after(load), (moved % 600, Load(("out", moved // 600))))

    def test_a_handler_does_not_take_what_it_sends(self):
        handler = Handler(("a",), (((0, (("a", 2),)),),))
        self.same(handler.after(Load(("a", GREAT))), (0, Load(("a", 2 * GREAT))))

    def test_great_counts_in_steps(self):
        handler = Handler(("a",), (((1, (("c", GREAT - 1),)),), ((0, (("c", 1), ("d", GREAT))),)))
        self.same(handler.after(Load(("a", 2 * GREAT))), (0, Load(("c", GREAT * GREAT), ("d", GREAT * GREAT))))


class Edges(Case):
    ROWS = (((2, (("b", 1),)),), ((0, ()),), ((2, ()),))

    def test_the_empty_load(self):
        handler = Handler(("a",), self.ROWS)
        self.same(handler.after(Load()), (0, Load()))
        self.same(handler.after(Load(), state=2), (2, Load()))

    def test_arguments_by_name(self):
        handler = Handler(("a",), self.ROWS)
        self.same(handler.after(load=Load(("a", 2)), state=0), (2, Load(("b", 1))))
        self.assertRaises(TypeError, handler.after, Load(), 0)

    def test_nothing_is_changed(self):
        handler, load = Handler(("a",), self.ROWS), Load(("a", 2))
        self.same(handler.after(load), handler.after(load))
        self.same([handler.rows, load], [self.ROWS, Load(("a", 2))])

    def test_no_load(self):
        handler = Handler(("a",), self.ROWS)
        for value in STRANGE + ("1 a", (("a", 1),), {"a": 1}, handler, Anything(), nested(30)):
            self.fails(NotALoad, {"value": value}, handler.after, value)
            self.fails(NotALoad, {"value": value}, handler.after, value, state="none")

    def test_unknown_kinds(self):
        handler = Handler(("c", "a"), (((0, (("b", 1),)), (0, ())),))
        self.fails(UnknownKind, {"value": "b"}, handler.after, Load(("d", 1), ("b", 1), ("a", 1), ("c", 1)))
        self.fails(UnknownKind, {"value": "aa"}, handler.after, Load(("d", 1), ("b", 1), ("aa", GREAT)), state=None)

    def test_no_reachable_state(self):
        handler = Handler(("a",), self.ROWS)
        for state in STRANGE + (1, 3, -1, -3, "0", "a", (0,), [0], Anything(), nested(30), handler):
            self.fails(InvalidNumber, {"value": state}, handler.after, Load(("a", 1)), state=state)
            self.fails(InvalidNumber, {"value": state}, handler.after, Load(), state=state)


if __name__ == "__main__":
    unittest.main()
