"""Promise 1: `every`, `dealer`, `copier` and `sample_web`."""

import unittest

from everyload.errors import InvalidKinds, InvalidName, InvalidNames, InvalidNumber, NotALoad
from everyload.handlers import Handler
from everyload.loads import Load
from everyload.samples import copier, dealer, every, sample_web
from everyload.webs import Web
from tests.support import STRANGE, Anything, Case, nested

GREAT = 10 ** 45
EIGHT = ("a", "b", "c", "d", "e", "f", "g", "h")
NO_NAMES = STRANGE + ("A", "abcdefghi", "1a", "a\n", " a", "\u00e4", ("a",), Anything(), nested(30), Load())
NO_TUPLES = (None, True, False, 1, "a", "abc", b"a", ["a"], {"a": 1}, iter("a"), object(), Anything(), Load())


class Every(Case):
    def test_rows(self):
        self.same(every(("a",), 1, "x").rows, (((0, (("x", 1),)),),))
        self.same(every(("b", "a"), 1, "x").rows, (((0, (("x", 1),)),) * 2,))
        sends = (0, (("x", 1),))
        self.same(every(("b", "a"), 3, "x").rows, (((1, ()),) * 2, ((2, ()),) * 2, (sends,) * 2))
        self.same(every(count=2, out="x", kinds=("a",)).rows, (((1, ()),), ((0, (("x", 1),)),)))

    def test_kinds(self):
        for kinds in (("a",), ("b", "a"), EIGHT):
            self.same(every(kinds, 5, "x").kinds, kinds)
            self.assertIs(type(every(kinds, 5, "x")), Handler)

    def test_counted_together(self):
        for count in (1, 2, 7, 599, 600):
            handler = every(("b", "a", "c"), count, "out")
            self.same([len(handler), handler.sent], [count, ("out",)])
            for one, other in ((0, 0), (1, 0), (0, 1), (count, 0), (count - 1, 1), (3, 4), (GREAT, GREAT + 1)):
                behind, sent = handler.after(Load(*[(kind, many) for kind, many in (("a", one), ("c", other)) if many]))
                self.same([behind, sent["out"]], [(one + other) % count, (one + other) // count])

    def test_what_is_sent_may_be_a_kind(self):
        self.same(every(("a", "b"), 2, "a").rows, (((1, ()),) * 2, ((0, (("a", 1),)),) * 2))

    def test_kinds_that_are_none(self):
        for kinds in NO_TUPLES + ((), EIGHT + ("i",), (1,) * 9):
            self.fails(InvalidKinds, {"index": None}, every, kinds, 0, "X")
        for wrong in NO_NAMES:
            self.fails(InvalidKinds, {"index": 0}, every, (wrong,), 0, "X")
            self.fails(InvalidKinds, {"index": 1}, every, ("a", wrong, "a"), None, None)
        self.fails(InvalidKinds, {"index": 2}, every, ("a", "b", "a"), 3, "x")

    def test_counts_that_are_none(self):
        for count in (0, -1, 601, GREAT, -GREAT, True, False, None, "3", b"3", (3,), [3], object(), Anything()):
            self.fails(InvalidNumber, {"value": count}, every, ("a",), count, "X")

    def test_outs_that_are_none(self):
        for out in NO_NAMES:
            self.fails(InvalidName, {"value": out}, every, ("a",), 600, out)


class Dealer(Case):
    def test_rows(self):
        self.same(dealer("a", ("x",)).rows, (((0, (("x", 1),)),),))
        self.same(dealer("a", ("y", "x")).rows, (((1, (("y", 1),)),), ((0, (("x", 1),)),)))
        rows = (((1, (("y", 1),)),), ((2, (("y", 1),)),), ((0, (("x", 1),)),))
        self.same(dealer(outs=("y", "y", "x"), kind="a").rows, rows)
        self.same(dealer("a", ("a",)).sent, ("a",))

    def test_in_turn(self):
        for outs in (("x",), ("x", "y"), ("x", "x"), ("c", "b", "c", "a"), ("x",) * 599 + ("y",), ("p", "q") * 300):
            handler = dealer("a", outs)
            self.same([handler.kinds, len(handler)], [("a",), len(outs)])
            for many in (0, 1, 2, len(outs) - 1, len(outs), 3 * len(outs) + 1):
                behind, sent = handler.after(Load(*[("a", many)][:many]))
                dealt = [outs[at % len(outs)] for at in range(many)]
                self.same(behind, many % len(outs))
                self.same([sent[out] for out in outs], [dealt.count(out) for out in outs])

    def test_kinds_that_are_none(self):
        for kind in NO_NAMES:
            self.fails(InvalidName, {"value": kind}, dealer, kind, ())

    def test_outs_that_are_none(self):
        for outs in NO_TUPLES + ((), ("x",) * 601, (1,) * 601):
            self.fails(InvalidNames, {"index": None}, dealer, "a", outs)
        for wrong in NO_NAMES:
            self.fails(InvalidNames, {"index": 0}, dealer, "a", (wrong, 5))
            self.fails(InvalidNames, {"index": 599}, dealer, "a", ("x",) * 599 + (wrong,))


class Copier(Case):
    def test_rows(self):
        self.same(copier("a", Load()).rows, (((0, ()),),))
        self.same(copier("a", Load(("y", GREAT), ("a", 2))).rows, (((0, (("a", 2), ("y", GREAT))),),))
        self.same(copier(sent=Load(("x", 1)), kind="abcdefgh").kinds, ("abcdefgh",))
        self.same(copier("a", Load(("x", 3))).after(Load(("a", GREAT))), (0, Load(("x", 3 * GREAT))))

    def test_kinds_that_are_none(self):
        for kind in NO_NAMES:
            self.fails(InvalidName, {"value": kind}, copier, kind, None)

    def test_what_is_no_load(self):
        for sent in STRANGE + ("1 a", Anything(), nested(30), copier("a", Load())):
            self.fails(NotALoad, {"value": sent}, copier, "a", sent)


class SampleWeb(Case):
    TEXT = """takes order
0 order 1 sends 1 cut
1 order 0 sends 1 paint
and
takes cut
0 cut 0 sends 2 piece
and
takes piece paint
0 piece 1
0 paint 1
1 piece 2
1 paint 2
2 piece 0 sends 1 box
2 paint 0 sends 1 box
and
takes box
0 box 1 sends 1 label
1 box 0 sends 1 label, 1 paint"""

    def test_its_handlers(self):
        web = sample_web()
        self.assertIs(type(web), Web)
        self.same(str(web), self.TEXT)
        self.same(web.handlers[0], dealer("order", ("cut", "paint")))
        self.same(web.handlers[1], copier("cut", Load(("piece", 2))))
        self.same(web.handlers[2], every(("piece", "paint"), 3, "box"))
        self.same([web.kinds, web.outs], [("order", "cut", "piece", "paint", "box"), ("label",)])

    def test_it_is_always_the_same(self):
        self.same(sample_web(), sample_web())


if __name__ == "__main__":
    unittest.main()
