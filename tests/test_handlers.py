"""Promises 4 and 5: handlers, what they tell, and what they refuse."""

import random
import unittest

from everyload.errors import Heeds, InvalidKinds, InvalidNumber, InvalidRows, UnknownKind
from everyload.handlers import Handler
from everyload.loads import Load
from tests.support import STRANGE, Anything, Case, nested
from tests.tables import all_tables, heeding, meter, reached

GREAT = 10 ** 45 - 1
EIGHT = ("a", "b", "c", "d", "e", "f", "g", "h")
TOGGLE = (((1, ()), (0, (("c", 1),))), ((0, (("b", 2), ("x", GREAT))), (1, (("c", 1),))))
HEEDING = (((1, ()), (0, ())), ((1, ()), (0, (("c", 1),))))


class Word(str):
    def __str__(self):
        return "another"


class Number(int):
    pass


class Telling(Case):
    def test_what_a_handler_tells(self):
        for handler in (Handler(("b", "a"), TOGGLE), Handler(rows=TOGGLE, kinds=("b", "a"))):
            self.same(handler.kinds, ("b", "a"))
            self.same(handler.rows, TOGGLE)
            self.same(handler.sent, ("b", "c", "x"))
            self.same(handler.reachable, (0, 1))
            self.same(len(handler), 2)
            self.same(repr(handler), "Handler(2 kinds, 2 states)")
            self.assertTrue(handler)

    def test_one_kind_and_one_row(self):
        handler = Handler(("a",), (((0, ()),),))
        self.same([handler.kinds, handler.rows, handler.sent, handler.reachable], [("a",), (((0, ()),),), (), (0,)])
        self.same(repr(handler), "Handler(1 kinds, 1 states)")

    def test_eight_kinds_and_six_hundred_rows(self):
        kinds, rows = meter(EIGHT, (1, 2, 3, 4, 5, 6, 7, 599), 600)
        handler = Handler(kinds, rows)
        self.same([handler.kinds, handler.rows, handler.sent], [EIGHT, rows, ("out",)])
        self.same(handler.reachable, tuple(range(600)))
        self.same(len(handler), 600)
        self.same(repr(handler), "Handler(8 kinds, 600 states)")

    def test_states_to_which_nothing_leads(self):
        rows = (((3, ()),), ((0, (("p", 1),)),), ((1, (("q", 1),)),), ((5, (("r", 1),)),), ((4, ()),), ((3, ()),))
        handler = Handler(("a",), rows)
        self.same([handler.reachable, handler.sent, len(handler)], [(0, 3, 5), ("r",), 6])
        self.same(handler.rows, rows)

    def test_reachable_states_are_ascending(self):
        rows = (((4, ()), (4, ())), ((1, ()), (0, ())), ((3, ()), (3, ())), ((3, ()), (3, ())), ((2, ()), (2, ())))
        handler = Handler(("a", "b"), rows)
        self.same(handler.reachable, (0, 2, 3, 4))

    def test_own_kinds_may_be_sent(self):
        handler = Handler(("a",), (((0, (("a", 1), ("b", 1))),),))
        self.same(handler.sent, ("a", "b"))

    def test_classes_of_the_caller(self):
        handler = Handler((Word("a"),), (((Number(0), ((Word("b"), Number(2)),)),),))
        self.same([handler.kinds, handler.rows, handler.sent], [("a",), (((0, (("b", 2),)),),), ("b",)])
        self.same(str(handler), "takes a\n0 a 0 sends 2 b")

    def test_a_handler_never_changes(self):
        handler = Handler(("b", "a"), TOGGLE)
        for name in ("kinds", "rows", "sent", "reachable"):
            with self.assertRaises(AttributeError):
                setattr(handler, name, ())
        self.same(handler.rows, TOGGLE)


class Steps(Case):
    def test_all_steps(self):
        handler = Handler(("b", "a"), TOGGLE)
        self.same(handler.step(0, "b"), (1, Load()))
        self.same(handler.step(1, "b"), (0, Load(("b", 2), ("x", GREAT))))
        self.same(handler.step(kind="a", state=1), (1, Load(("c", 1))))

    def test_steps_at_states_to_which_nothing_leads(self):
        handler = Handler(("a",), (((0, ()),), ((1, (("b", 1),)),)))
        self.same(handler.step(1, "a"), (1, Load(("b", 1))))

    def test_no_state(self):
        handler = Handler(("a",), (((0, ()),), ((1, ()),)))
        for state in STRANGE + (2, -1, -2, "0", "a", (0,), [0], Anything(), nested(30), handler):
            self.fails(InvalidNumber, {"value": state}, handler.step, state, "a")
            self.fails(InvalidNumber, {"value": state}, handler.step, state, "none")

    def test_no_kind(self):
        handler = Handler(("a",), (((0, (("b", 1),)),), ((1, ()),)))
        for kind in STRANGE + ("b", "A", "aa", 0, ("a",), ["a"], Anything(), nested(30), handler):
            self.fails(UnknownKind, {"value": kind}, handler.step, 0, kind)


class Equality(Case):
    def test_equal_if_kinds_and_rows_are(self):
        handler = Handler(("b", "a"), TOGGLE)
        self.assertTrue(handler == Handler(("b", "a"), TOGGLE))
        self.assertFalse(handler != Handler(("b", "a"), TOGGLE))
        swapped = tuple(row[::-1] for row in TOGGLE)
        for other in (Handler(("a", "b"), TOGGLE), Handler(("b", "c"), TOGGLE), Handler(("a", "b"), swapped),
                      Handler(("b", "a"), TOGGLE + (((0, ()), (0, ())),)), Handler(("b",), (((0, ()),),))):
            self.assertFalse(handler == other)
            self.assertTrue(handler != other)

    def test_never_equal_to_another_class(self):
        handler = Handler(("b", "a"), TOGGLE)
        for value in STRANGE + (Anything(), (("b", "a"), TOGGLE), str(handler), Load(), nested(30)):
            self.assertIs(handler == value, False)
            self.assertIs(handler != value, True)


class Kinds(Case):
    def test_no_tuple_or_no_length(self):
        nine = EIGHT + ("i",)
        for kinds in (None, True, 1, "a", "ab", ["a"], {"a": 1}, {"a"}, iter("a"), b"a", (), [], nine, nine + nine,
                      ("a",) * 9, (1,) * 9, Anything()):
            self.fails(InvalidKinds, {"index": None}, Handler, kinds, (((0, ()),),))
            self.fails(InvalidKinds, {"index": None}, Handler, kinds, None)

    def test_no_names(self):
        for wrong in ("A", "", "abcdefghi", "1a", "a b", "a\n", "\u00e4", 3, None, True, ("a",), ["a"], b"a",
                      Anything(), nested(30)):
            self.fails(InvalidKinds, {"index": 0}, Handler, (wrong,), TOGGLE)
            self.fails(InvalidKinds, {"index": 1}, Handler, ("a", wrong, "a", 5), ())

    def test_a_kind_again(self):
        self.fails(InvalidKinds, {"index": 1}, Handler, ("a", "a"), TOGGLE)
        self.fails(InvalidKinds, {"index": 2}, Handler, ("a", "b", "a", "b"), None)
        self.fails(InvalidKinds, {"index": 7}, Handler, EIGHT[:7] + ("c",), None)


class Rows(Case):
    def test_no_tuple_or_no_length(self):
        row = ((0, ()),)
        for rows in (None, True, 1, "", "a", (), [], [row], {0: row}, iter((row,)), (row,) * 601, (None,) * 601,
                     Anything(), Load()):
            self.fails(InvalidRows, {"index": None}, Handler, ("a",), rows)
        self.same(len(Handler(("a",), (row,) * 600)), 600)

    def test_no_row(self):
        good = ((0, ()), (0, ()))
        for row in (None, 0, "", "ab", [], (), [(0, ()), (0, ())], ((0, ()),), good + ((0, ()),), ((0, ()), None),
                    ((0, ()), [0, ()]), ((0, ()), (0,)), ((0, ()), (0, (), ())), ((0, ()), 0), {0: 0, 1: 1},
                    ((0, ()), "ab"), Anything(), nested(30), Load()):
            self.fails(InvalidRows, {"index": 0}, Handler, ("a", "b"), (row, good))
            self.fails(InvalidRows, {"index": 2}, Handler, ("a", "b"), (good, good, row, None))

    def test_no_state(self):
        for state in (3, -1, 600, 10 ** 45, True, False, None, "0", (0,), [], Anything(), nested(30)):
            rows = (((0, ()),), ((state, ()),), ((9, ()),))
            self.fails(InvalidRows, {"index": 1}, Handler, ("a",), rows)
        self.same(Handler(("a",), (((2, ()),), ((1, ()),), ((0, ()),))).reachable, (0, 2))

    def test_no_pairs(self):
        wrong = (None, "", [], {}, 0, True, "a", ("a",), ("a", 1), (["a", 1],), (("a", 0),), (("a", -1),),
                 (("a", True),), (("a", False),), (("a", "1"),), (("A", 1),), (("", 1),), (("abcdefghi", 1),),
                 ((1, "a"),), (("a", 1, 1),), (("a", 1), ("a", 1)), (("a", 1), ("a", 2)), (("b", 1), ("a", 1)),
                 (("a", 1), ("c", 1), ("b", 1)), (("a10", 1), ("a1", 1)), (("a", 1), ("b", 0)), [("a", 1)],
                 Load(("a", 1)), "1 a", iter(()), (None,), Anything(), nested(30), (("a", None),), (("a", []),))
        for pairs in wrong:
            self.fails(InvalidRows, {"index": 0}, Handler, ("a",), (((0, pairs),),))
            rows = (((0, ()), (0, ())), ((0, (("a", 1), ("b", GREAT))), (0, pairs)), None)
            self.fails(InvalidRows, {"index": 1}, Handler, ("a", "b"), rows)

    def test_rows_to_which_nothing_leads_count_too(self):
        self.fails(InvalidRows, {"index": 1}, Handler, ("a",), (((0, ()),), ((2, ()),)))
        self.fails(InvalidRows, {"index": 1}, Handler, ("a",), (((0, ()),), ((0, (("b", 1), ("a", 1))),)))


class Heeding(Case):
    def agrees(self, kinds, rows):
        expected = heeding(kinds, rows)
        if expected is not None:
            self.fails(Heeds, expected, Handler, kinds, rows)
            return False
        self.same(Handler(kinds, rows).reachable, reached(rows))
        return True

    def test_all_tables_of_two_states(self):
        made = [self.agrees(("a", "b"), rows) for rows in all_tables(2, 2, ((), (("c", 1),)))]
        self.assertTrue(any(made) and not all(made))

    def test_all_tables_of_three_states_that_send_nothing(self):
        made = [self.agrees(("b", "a"), rows) for rows in all_tables(2, 3, ((),))]
        self.assertTrue(any(made) and not all(made))

    def test_all_tables_of_three_kinds(self):
        for rows in all_tables(3, 2, ((),)):
            self.agrees(("b", "c", "a"), rows)

    def test_one_state_never_heeds(self):
        for rows in all_tables(3, 1, ((), (("a", 1),), (("c", 2), ("d", 1)))):
            self.assertTrue(self.agrees(("a", "b", "c"), rows))

    def test_many_tables(self):
        source = random.Random(7)
        kinds, rows = meter(("a", "b", "c"), (2, 3, 5), 7, "out", ((("z", 1),), (), (("out", 1),)))
        self.assertTrue(self.agrees(kinds, rows))
        for _ in range(400):
            changed = [list(row) for row in rows]
            for _ in range(source.randint(1, 2)):
                state, at = source.randrange(7), source.randrange(3)
                follows, pairs = changed[state][at]
                changed[state][at] = source.choice([(source.randrange(7), pairs), (follows, (("z", 2),))])
            self.agrees(kinds, tuple(map(tuple, changed)))

    def test_the_example(self):
        self.fails(Heeds, {"state": 0, "one": "a", "other": "b"}, Handler, ("a", "b"), HEEDING)

    def test_the_kinds_stand_in_their_order(self):
        self.fails(Heeds, {"state": 0, "one": "z", "other": "a"}, Handler, ("z", "a"), HEEDING)

    def test_the_least_state_not_the_nearest(self):
        # State 0 leads to 3, 3 to 2, 2 to 1; of these, 2 and 1 heed.
        rows = (((3, ()), (3, ())), ((1, ()), (0, ())), ((1, ()), (1, ())), ((2, ()), (2, ())))
        self.assertEqual(heeding(("a", "b"), rows), {"state": 1, "one": "a", "other": "b"})
        self.fails(Heeds, {"state": 1, "one": "a", "other": "b"}, Handler, ("a", "b"), rows)

    def pair_of_four(self, one, other):
        """A table of four kinds in which `one` and `other` heed, and each of them with none but the other."""
        kinds = ("d", "c", "b", "a")
        rows = []
        for state in range(2):
            row = [(state, ()) for _ in kinds]
            row[kinds.index(one)] = (1, ())
            row[kinds.index(other)] = (state, (("x", state + 1),))
            rows.append(tuple(row))
        return kinds, tuple(rows)

    def test_each_pair_of_kinds(self):
        kinds = ("d", "c", "b", "a")
        for at, one in enumerate(kinds):
            for other in kinds[at + 1:]:
                expected = {"state": 0, "one": one, "other": other}
                self.fails(Heeds, expected, Handler, *self.pair_of_four(one, other))
                self.fails(Heeds, expected, Handler, *self.pair_of_four(other, one))

    def test_the_first_pair_goes_by_the_first_kind(self):
        # `a` heeds with `d`, `b` with `c`: the pair of `a` comes first, for all that `c` stands ahead of `d`.
        still = (0, ())
        rows = (((1, ()), (2, ()), (0, (("x", 1),)), (0, (("y", 1),))),
                ((1, ()), (3, ()), (1, (("x", 1),)), (1, (("y", 2),))),
                ((3, ()), (2, ()), (2, (("x", 2),)), (2, (("y", 1),))),
                ((3, ()), (3, ()), (3, (("x", 2),)), (3, (("y", 2),))))
        self.fails(Heeds, {"state": 0, "one": "a", "other": "d"}, Handler, ("a", "b", "c", "d"), rows)
        first = rows[0][:3] + (still,)
        swapped = (first,) + tuple(row[:3] + ((state + 1, ()),) for state, row in enumerate(rows[1:]))
        self.fails(Heeds, {"state": 0, "one": "b", "other": "c"}, Handler, ("a", "b", "c", "d"), swapped)

    def test_loads_alone_may_differ(self):
        rows = (((1, (("c", 1),)), (0, (("d", 1),))), ((1, (("c", 1),)), (1, (("d", 2),))))
        self.fails(Heeds, {"state": 0, "one": "a", "other": "b"}, Handler, ("a", "b"), rows)
        rows = (((1, (("c", GREAT),)), (0, ())), ((1, ()), (1, ())))
        self.same(len(Handler(("a", "b"), rows)), 2)

    def test_loads_count_in_all(self):
        # In the one order the first step sends, in the other the second one.
        rows = (((1, ()), (1, ())), ((0, (("c", 1),)), (0, (("c", 1),))))
        self.same(Handler(("a", "b"), rows).sent, ("c",))

    def test_states_to_which_nothing_leads_may_heed(self):
        rows = (((0, ()), (0, ())), ((0, ()), (1, ())), ((1, (("c", 1),)), (0, (("d", 1),))))
        self.same(Handler(("a", "b"), rows).reachable, (0,))
        moved = tuple(tuple((follows + 1, pairs) for follows, pairs in row) for row in HEEDING)
        self.same(Handler(("a", "b"), (((0, ()), (0, ())),) + moved).reachable, (0,))

    def test_other_errors_come_first(self):
        self.fails(InvalidRows, {"index": 2}, Handler, ("a", "b"), HEEDING + (None,))
        self.fails(InvalidKinds, {"index": 1}, Handler, ("a", "a"), HEEDING)


if __name__ == "__main__":
    unittest.main()
