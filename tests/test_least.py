"""Promise 9: the handler with the fewest states that is alike."""

import itertools
import random
import unittest

from everyload.errors import NotAHandler
from everyload.folding import least
from everyload.handlers import Handler
from everyload.loads import Load
from everyload.samples import copier, dealer, every, sample_web
from tests.support import STRANGE, Anything, Case, nested
from tests.tables import all_tables, heeding, meter, reached
from tests.webs import loads_of_size, ring, some_handler, some_load

GREAT = 10 ** 45
NO_HANDLERS = STRANGE + ("takes a\n0 a 0", Anything(), nested(30), Load(), sample_web(), sample_web().handlers)


def unlike_states(handler):
    """All pairs of reachable states from which some load makes the handler send unlike loads, by filling a table."""
    rows, states = handler.rows, reached(handler.rows)
    unlike = {(one, other) for one in states for other in states
              if [step[1] for step in rows[one]] != [step[1] for step in rows[other]]}
    while True:
        more = {(one, other) for one in states for other in states if any(
            (first[0], second[0]) in unlike for first, second in zip(rows[one], rows[other]))}
        if more <= unlike:
            return unlike
        unlike |= more


def plainly_least(handler):
    """What `least` has to return: the classes of states that are not unlike, in the order of their first loads."""
    unlike, rows = unlike_states(handler), handler.rows
    classes = {state: min(other for other in reached(rows) if (state, other) not in unlike) for state in reached(rows)}
    order = []
    for size in itertools.count():
        new = [classes[handler.after(load)[0]] for load in loads_of_size(handler.kinds, size)]
        found = [number for at, number in enumerate(new) if number not in order and number not in new[:at]]
        order += found
        if not found:
            break
    return Handler(handler.kinds, tuple(
        tuple((order.index(classes[follows]), pairs) for follows, pairs in rows[number]) for number in order))


class Least(Case):
    def agrees(self, handler):
        told = least(handler)
        self.same(told, plainly_least(handler))
        self.assertIs(type(told), Handler)
        self.same(least(told), told)
        return told

    def test_all_tables_of_two_states(self):
        for rows in all_tables(2, 2, ((), (("c", 1),))):
            if heeding(("b", "a"), rows) is None:
                self.agrees(Handler(("b", "a"), rows))

    def test_all_tables_of_one_kind(self):
        for rows in all_tables(1, 3, ((), (("a", 1),), (("c", 2),))):
            self.agrees(Handler(("a",), rows))

    def test_any_handlers(self):
        source = random.Random(81)
        for _ in range(150):
            kinds = tuple(source.sample(("a", "b", "c"), source.randint(1, 3)))
            handler = some_handler(source, kinds, ["a", "x"], size=3, density=source.choice((0.1, 0.3, 0.6)))
            if len(handler) < 40:
                told = self.agrees(handler)
                for most in (3, 10, GREAT):
                    load = some_load(source, kinds, most)
                    self.same(told.after(load)[1], handler.after(load)[1])

    def test_what_has_the_fewest_already(self):
        for handler in (every(("b", "a"), 7, "x"), dealer("a", ("x", "y", "y")), copier("a", Load(("x", 1)))):
            self.same(least(handler), handler)
        self.same(least(handler=every(("a",), 600, "x")), every(("a",), 600, "x"))

    def test_rounds_in_a_round(self):
        self.same(least(dealer("a", ("x", "y") * 300)), dealer("a", ("x", "y")))
        self.same(least(dealer("a", ("x",) * 600)), copier("a", Load(("x", 1))))
        self.same(len(least(dealer("a", ("x",) * 599 + ("y",)))), 600)
        self.same(least(dealer("a", ("x", "x", "y") * 200)), dealer("a", ("x", "x", "y")))

    def test_states_to_which_nothing_leads(self):
        handler = Handler.read("takes a\n0 a 2\n1 a 0 sends 1 x\n2 a 0 sends 1 y")
        self.same(least(handler), Handler.read("takes a\n0 a 1\n1 a 0 sends 1 y"))

    def test_the_order_of_the_states(self):
        # `b` moves on by two, `a` by one: behind none the first loads are 1 b, 1 a, and 1 a, 1 b.
        told = least(Handler(*meter(("b", "a"), (2, 1), 4, "x")))
        self.same(str(told), "takes b a\n0 b 1\n0 a 2\n1 b 0 sends 1 x\n1 a 3\n2 b 3\n2 a 1\n"
                             "3 b 2 sends 1 x\n3 a 0 sends 1 x")
        self.same(told, plainly_least(told))

    def test_a_way_into_a_ring(self):
        sends = [{"x": 1}, {"y": 1}, {"z": 1}]
        whole = Handler(("a",), tuple(((follows, pairs),) for follows, pairs in (
            (1, (("x", 1),)), (2, (("y", 1),)), (3, (("z", 1),)), (4, (("x", 1),)), (5, (("y", 1),)),
            (0, (("z", 1),)))))
        self.same(least(whole), ring("a", sends))
        longer = Handler(("a",), (((1, (("w", 1),)),), ((2, (("y", 1),)),), ((3, (("z", 1),)),), ((1, (("x", 1),)),)))
        self.same(least(longer), longer)

    def test_great_tables(self):
        kinds = ("a", "b", "c", "d", "e", "f", "g", "h")
        told = least(Handler(*meter(kinds, (2, 4, 6, 8, 10, 12, 14, 598), 600)))
        self.same(told, least(Handler(*meter(kinds, (1, 2, 3, 4, 5, 6, 7, 299), 300))))
        self.same([told.kinds, len(told)], [kinds, 300])
        self.same(len(least(Handler(*meter(kinds, (1, 2, 3, 4, 5, 6, 7, 599), 600)))), 600)

    def test_no_handlers(self):
        for value in NO_HANDLERS:
            self.fails(NotAHandler, {"value": value}, least, value)


if __name__ == "__main__":
    unittest.main()
