"""The checker, promise 1: rows that show where loads lead, and which rows a row may refer to."""

import random
import unittest

from everyload.checker import holds
from everyload.handlers import Handler
from everyload.loads import Load
from everyload.samples import copier, every
from everyload.webs import Web
from tests.claims import faulty, so
from tests.support import STRANGE, Anything, Case

GREAT = 10 ** 45
WEB = Web(every(("a",), 2, "b"), Handler.read("takes b\n0 b 1 sends 1 x\n1 b 1 sends 1 y"))
TEXT = str(WEB)
# What each row has to show: none, an `a` that sends nothing, a `b`, and so on.
NONE = ((0, 1), (), (0, 1), (), None)
QUIET = ((0, 1), (("a", 1),), (1, 1), (), ("take", 1))
ROWS = (
    NONE,
    ((1, 1), (), (1, 1), (), None),
    QUIET,
    ((0, 1), (("b", 1),), (0, 1), (("y", 1),), ("take", 0)),
    ((1, 1), (("a", 1),), (0, 1), (("y", 1),), ("take", 3)),
    ((0, 1), (("a", 2),), (0, 1), (("y", 1),), ("then", 2, 4)),
    ((0, 1), (("a", 2 * GREAT),), (0, 1), (("y", GREAT),), ("times", 5, GREAT)),
    ((0, 1), (("a", 2 * GREAT), ("b", 1)), (0, 1), (("y", GREAT + 1),), ("then", 3, 6)),
    ((0, 1), (("a", 2 * GREAT + 1), ("b", 1)), (1, 1), (("y", GREAT + 1),), ("then", 7, 2)),
)


def claim_of(row):
    return ("run", TEXT, *row[:4])


def put(rows, at, row):
    return rows[:at] + (row,) + rows[at + 1:]


def with_how(rows, at, how):
    return put(rows, at, rows[at][:4] + (how,))


class Right(Case):
    def test_each_row_is_shown_by_those_ahead(self):
        for at, row in enumerate(ROWS):
            self.assertIs(so(claim_of(row), ROWS[:at + 1]), True)
            self.assertIs(holds(claim_of(row), ROWS[:at + 1]), True)
            for other in ROWS:
                if other[:4] != row[:4]:
                    self.assertIs(holds(claim_of(other), ROWS[:at + 1]), False)

    def test_rows_that_are_of_no_use(self):
        self.assertIs(holds(claim_of(ROWS[-1]), ROWS[:-1] + (ROWS[-1],) * 2), True)
        self.assertIs(holds(claim_of(NONE), ROWS + (NONE,)), True)
        self.assertIs(holds(claim_of(NONE), (NONE,)), True)
        self.assertIs(holds(claim_of(NONE), ()), False)

    def test_all_that_goes_wrong_goes_for_rows_that_are_not_needed_too(self):
        for wrong in STRANGE + (NONE[:4], NONE + (None,), list(NONE), ((0, 2),) + NONE[1:], ((0, True),) + NONE[1:],
                                NONE[:1] + ((("c", 1),),) + NONE[2:], NONE[:3] + ((("x", 0),),) + NONE[4:], Anything()):
            self.assertIs(holds(claim_of(NONE), (wrong, NONE)), False)
            self.assertIs(holds(claim_of(NONE), (NONE, wrong)), False)

    def test_one_fault(self):
        source = random.Random(301)
        told = [0, 0]
        for _ in range(4000):
            wrong = faulty(ROWS, source)
            expected = so(claim_of(ROWS[-1]), wrong)
            self.assertIs(holds(claim_of(ROWS[-1]), wrong), expected, wrong)
            told[expected] += 1
        self.assertGreater(min(told), 20)


class Hows(Case):
    def refuses(self, rows, hows):
        at = len(rows) - 1
        for how in hows:
            self.assertIs(holds(claim_of(rows[at]), with_how(rows, at, how)), False, how)

    def test_rows_that_refer_to_themselves_or_to_later_ones(self):
        for at, row in enumerate(ROWS):
            how = row[4]
            for place in range(1, len(how or ())):
                if how[0] == "times" and place == 2:
                    continue
                for other in (at, at + 1, len(ROWS), len(ROWS) - 1, -1, at - len(ROWS), GREAT, -GREAT):
                    if other != how[place] and not 0 <= other < at:
                        rows = with_how(ROWS, at, how[:place] + (other,) + how[place + 1:])
                        self.assertIs(holds(claim_of(ROWS[-1]), rows), False)
                        self.assertIs(holds(claim_of(row), rows[:at + 1]), False)
        # Two rows that would show one another.
        one = ((0, 1), (("a", 2),), (0, 1), (("y", 5),), ("times", 1, 1))
        other = ((0, 1), (("a", 2),), (0, 1), (("y", 5),), ("times", 0, 1))
        self.assertIs(holds(claim_of(one), (one, other)), False)
        self.assertIs(holds(claim_of(one), (NONE, one, other)), False)

    def test_words(self):
        hows = STRANGE + ("take", "then", ("take",), ("then",), ("times",), ("none",), (None,), (None, 0), Anything())
        for at in (2, 4, 5, 6, 7):
            self.refuses(ROWS[:at + 1], [how for how in hows if how != ROWS[at][4]])
            word, *more = ROWS[at][4]
            self.refuses(ROWS[:at + 1], [(other, *more) for other in ("take", "then", "times", "None", "", None, 1)
                                         if other != word])
            self.refuses(ROWS[:at + 1], [[word, *more], (word, *more, 0), (word, *more[:-1]), (word, *more, *more),
                                         (word, *[None for _ in more]), (word, *[True for _ in more]),
                                         (word, *[str(number) for number in more]), (word, tuple(more))])

    def test_none(self):
        for row in (((0, 1), (), (1, 1), (), None), ((0, 1), (), (0, 1), (("x", 1),), None),
                    ((0, 1), (("b", 1),), (0, 1), (), None)):
            self.assertIs(holds(claim_of(row), (row,)), False)
        self.refuses((NONE,), STRANGE[1:] + (("take", 0), ("then", 0, 0), ("times", 0, 1)))
        # An empty load may be shown by two of them, or by one, several times over.
        self.assertIs(holds(claim_of(NONE), (NONE, NONE[:4] + (("then", 0, 0),))), True)
        self.assertIs(holds(claim_of(NONE), (NONE, NONE[:4] + (("times", 0, GREAT),))), True)

    def test_take(self):
        one = ((1, 1), (), (1, 1), (), None)
        self.assertIs(holds(claim_of(QUIET), (one, QUIET[:4] + (("take", 0),))), True)
        for wrong in (((0, 1), (("a", 2),), (1, 1), ()), ((0, 1), (), (1, 1), ()), ((0, 1), (("b", 1),), (1, 1), ()),
                      ((0, 1), (("a", 1), ("b", 1)), (1, 1), ()), ((1, 1), (("a", 1),), (1, 1), ()),
                      ((0, 1), (("a", 1),), (0, 1), ()), ((0, 1), (("a", 1),), (1, 1), (("x", 1),)),
                      ((0, 0), (("a", 1),), (1, 0), ()), ((0, 1), (("x", 1),), (1, 1), ())):
            self.assertIs(holds(("run", TEXT, *wrong), (one, wrong + (("take", 0),))), False)
        # What is sent must have been run, and what goes out of that counts.
        loud = ((1, 1), (("a", 1),), (0, 1), (("y", 1),))
        rest = ((0, 1), (), (0, 1), (), None)
        self.assertIs(holds(("run", TEXT, *loud), ROWS[:4] + (loud + (("take", 3),),)), True)
        self.assertIs(holds(("run", TEXT, *loud), (rest, loud + (("take", 0),))), False)
        quiet = ((1, 1), (("a", 1),), (0, 1), ())
        self.assertIs(holds(("run", TEXT, *quiet), ROWS[:4] + (quiet + (("take", 3),),)), False)
        self.assertIs(holds(("run", TEXT, *quiet), (rest, quiet + (("take", 0),))), False)

    def test_then(self):
        both = ((0, 1), (("a", 1), ("b", 1)), (1, 1), (("y", 1),))
        self.assertIs(holds(("run", TEXT, *both), ROWS[:4] + (both + (("then", 3, 2),),)), True)
        # The other way about the second one begins elsewhere.
        self.assertIs(holds(("run", TEXT, *both), ROWS[:4] + (both + (("then", 2, 3),),)), False)
        for wrong in (((0, 1), (("a", 1),), (1, 1), (("y", 1),)), ((0, 1), (("a", 1), ("b", 2)), (1, 1), (("y", 1),)),
                      ((0, 1), (("a", 1), ("b", 1)), (0, 1), (("y", 1),)), ((0, 1), (("a", 1), ("b", 1)), (1, 1), ()),
                      ((1, 1), (("a", 1), ("b", 1)), (1, 1), (("y", 1),)),
                      ((0, 1), (("a", 1), ("b", 1)), (1, 1), (("y", 2),)),
                      ((0, 1), (("b", 1), ("a", 1)), (1, 1), (("y", 1),))):
            self.assertIs(holds(("run", TEXT, *wrong), ROWS[:4] + (wrong + (("then", 3, 2),),)), False)

    def test_times(self):
        for many in (1, 2, GREAT, GREAT ** 2):
            row = ((0, 1), (("b", many),), (0, 1), (("y", many),))
            self.assertIs(holds(("run", TEXT, *row), ROWS[:4] + (row + (("times", 3, many),),)), True)
            for other in (0, -1, many + 1, many - 1, True, None, str(many), (many,), -many):
                self.assertIs(holds(("run", TEXT, *row), ROWS[:4] + (row + (("times", 3, other),),)), False)
        # A row that leads elsewhere can't be had several times over, not even once.
        for many in (1, 2):
            row = ((0, 1), (("a", many),), (1, 1), ())
            self.assertIs(holds(("run", TEXT, *row), ROWS[:3] + (row + (("times", 2, many),),)), False)
        nothing = ((0, 1), (), (0, 1), (), ("times", 3, 0))
        self.assertIs(holds(claim_of(nothing), ROWS[:4] + (nothing,)), False)
        row = ((0, 1), (("b", 2),), (0, 1), (("y", 1),))
        self.assertIs(holds(("run", TEXT, *row), ROWS[:4] + (row + (("times", 3, 2),),)), False)


class Idle(Case):
    AROUND = (
        ((0, 1), (), (0, 1), (), None), ((1, 1), (), (1, 1), (), None), ((0, 1), (("a", 1),), (1, 1), (), ("take", 1)),
        ((0, 1), (("b", 1),), (0, 1), (("y", 1),), ("take", 0)), ((1, 1), (("a", 1),), (0, 1), (("y", 1),), ("take", 3)),
        ((0, 1), (("a", 2),), (0, 1), (("y", 1),), ("then", 2, 4)),
        ((0, 1), (("a", 2), ("b", 1)), (0, 1), (("y", 2),), ("then", 5, 3)))

    def test_right_ones(self):
        for word, load, rows in (("idle", (("a", 2),), self.AROUND[:6]), ("not idle", (("a", 1),), self.AROUND[:3]),
                                 ("idle", (("b", 1),), self.AROUND[:4]), ("idle", (), self.AROUND[:1])):
            claim, paper = (word, TEXT, load), ((0, 1), self.AROUND, rows)
            self.assertIs(so(claim, paper), True)
            self.assertIs(holds(claim, paper), True)
            self.assertIs(holds(("idle" if word == "not idle" else "not idle", TEXT, load), paper), False)
            self.assertIs(holds((word, TEXT, (("a", 3),)), paper), False)

    def test_wrong_ones(self):
        claim, rows = ("idle", TEXT, (("a", 2),)), self.AROUND[:6]
        for paper in (((1, 1), self.AROUND, rows), ((0, 0), self.AROUND, rows), ((0, 1), rows, rows),
                      ((0, 1), self.AROUND[:4], rows), ((0, 1), (), rows), ((0, 1), self.AROUND, ()),
                      ((0, 1), self.AROUND, self.AROUND), ((0, 1), self.AROUND, self.AROUND[:3]), (self.AROUND, rows),
                      ((0, 1), self.AROUND), ((0, 1), self.AROUND, rows, rows), ((0, 1), list(self.AROUND), rows),
                      (None, self.AROUND, rows), ((0, True), self.AROUND, rows), ((0, 2), self.AROUND, rows)):
            self.assertIs(holds(claim, paper), False)

    def test_rests_that_do_not_last(self):
        # From the start nothing leads back; a load of all kinds that leads elsewhere is of no use.
        rows = (((0, 0), (), (0, 0), (), None),)
        self.assertIs(holds(("idle", TEXT, ()), ((0, 0), rows, rows)), False)
        one = Web(Handler.read("takes a b\n0 a 0 sends 1 x\n0 b 1\n1 a 1 sends 1 x\n1 b 1"))
        again = (((0,), (), (0,), (), None), ((0,), (("a", 1),), (0,), (("x", 1),), ("take", 0)))
        self.assertIs(holds(("idle", str(one), (("a", 1),)), ((0,), again, again)), False)

    def test_rests_elsewhere(self):
        # The second rows have to begin where the first ones do.
        web = Web(every(("a",), 2, "x"))
        first = (((1,), (), (1,), (), None), ((0,), (("a", 1),), (1,), (), ("take", 0)), ((0,), (), (0,), (), None),
                 ((1,), (("a", 1),), (0,), (("x", 1),), ("take", 2)), ((0,), (("a", 2),), (0,), (("x", 1),), ("then", 1, 3)))
        claim = ("not idle", str(web), (("a", 1),))
        self.assertIs(holds(claim, ((0,), first, first[:2])), True)
        self.assertIs(holds(claim, ((0,), first, first[:4])), False)
        self.assertIs(holds(("idle", str(web), (("a", GREAT),)), ((0,), first, first + (
            ((0,), (("a", GREAT),), (0,), (("x", GREAT // 2),), ("times", 4, GREAT // 2)),))), True)

    def test_one_kind_too_few(self):
        web = Web(copier("a", Load()), copier("b", Load()))
        row = ((0, 0), (), (0, 0), (), None)
        one = ((0, 0), (("a", 1),), (0, 0), (), ("take", 0))
        other = ((0, 0), (("b", 1),), (0, 0), (), ("take", 0))
        both = ((0, 0), (("a", 1), ("b", 1)), (0, 0), (), ("then", 1, 2))
        claim = ("idle", str(web), (("a", 1),))
        for around, told in (((row, one), False), ((row, one, other), False), ((row, one, other, both), True)):
            self.assertIs(holds(claim, ((0, 0), around, (row, one))), told)


if __name__ == "__main__":
    unittest.main()
