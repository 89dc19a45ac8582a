"""The checker, promise 1: it accepts what is so and shown, and nothing else."""

import itertools
import random
import unittest

from everyload.alike import web_parting
from everyload.certificates import certify_alike, certify_apart, certify_fewest, certify_greatest, certify_idle
from everyload.certificates import certify_one, certify_run
from everyload.checker import holds
from everyload.folding import as_one, folded, least
from everyload.handlers import Handler
from everyload.loads import Load
from everyload.meddling import meddling
from everyload.samples import copier, dealer, every, sample_web
from everyload.sums import greatest, passing
from everyload.webs import Web
from tests.claims import exchanged, faulty, so
from tests.support import STRANGE, Anything, Case, nested
from tests.tables import meter

GREAT = 10 ** 45
WEB = Web(every(("a", "b"), 2, "c"), dealer("c", ("x", "y", "x")))
OTHER = Web(dealer("b", ("c", "d")), copier("a", Load(("c", 1))), Handler.read("takes c d\n0 c 0 sends 1 x\n0 d 1\n"
                                                                             "1 c 1 sends 1 x\n1 d 0 sends 1 y"))
BACK = Web(Handler.read("takes a\n0 a 1 sends 1 b\n1 a 0 sends 1 x"), Handler.read("takes b\n0 b 1\n1 b 0 sends 1 a"))
COUNTED = every(("a", "b"), 3, "c")
BY_TWOS = Handler.read("takes a b c\n0 a 1\n0 b 0 sends 2 x\n0 c 2\n1 a 0 sends 1 x\n1 b 1 sends 2 x\n1 c 3\n"
                       "2 a 3\n2 b 2 sends 2 x\n2 c 0 sends 1 y\n3 a 2 sends 1 x\n3 b 3 sends 2 x\n3 c 1 sends 1 y")
SUM = (("a", 3), ("y", -18), ("b", 0))


def above(web, entries, terms, number):
    load = passing(web, entries, terms, number)
    return ("above", str(web), entries, terms, number), load.pairs


# One claim of each kind, and some more, with papers that show them.
RIGHT = [
    certify_one(WEB, ("b", "a")),
    (("one", str(WEB), ("a",), str(as_one(WEB, ("a",)))),
     tuple((rest, at) for at, rest in enumerate(((0, 0), (1, 0), (0, 1), (1, 1), (0, 2), (1, 2))))),
    certify_one(Web(copier("a", Load())), ("a",)),
    certify_alike(WEB, folded(WEB, (0, 1)), ("a", "b")),
    certify_alike(WEB, OTHER, ("a", "b")),
    certify_alike(sample_web(), sample_web(), ("box", "cut")),
    certify_alike(BACK, OTHER, ("a",)),
    certify_greatest(WEB, ("a", "b"), SUM),
    certify_greatest(WEB, ("b",), (("y", -1),)),
    certify_greatest(WEB, ("a", "b"), (("x", 1), ("y", -1))),
    certify_greatest(BACK, ("b", "a"), (("x", 2), ("a", -1))),
    above(WEB, ("a", "b"), SUM, 5),
    above(BACK, ("a",), (("x", 1),), 3),
    certify_run(WEB, Load(("a", 3), ("b", 4))),
    certify_run(BACK, Load(("a", 7), ("b", 1)), rest=(1, 1)),
    certify_run(BACK, Load()),
    certify_run(OTHER, Load(("a", 2), ("b", 5), ("c", 1))),
    certify_idle(BACK, Load(("a", 1), ("b", 1))),
    certify_idle(WEB, Load(("a", 5), ("b", 1))),
    certify_idle(WEB, Load(("c", 2))),
    certify_idle(BACK, Load()),
    certify_apart(every(("a", "b"), 1, "c"), ("b",)),
    certify_apart(BY_TWOS, ("c",)),
    certify_apart(BY_TWOS, ("b", "a")),
    certify_apart(COUNTED, ("a",)),
    certify_fewest(COUNTED),
    certify_fewest(BY_TWOS),
    certify_fewest(copier("a", Load())),
]


class Right(Case):
    def test_there_is_each_kind_of_claim(self):
        self.same({claim[0] for claim, _ in RIGHT}, {
            "one", "alike", "unlike", "never above", "above", "without end", "run", "idle", "not idle", "apart",
            "meddle", "fewest"})

    def test_they_hold(self):
        for claim, paper in RIGHT:
            self.assertIs(so(claim, paper), True, claim)
            self.assertIs(holds(claim, paper), True, claim)
            self.assertIs(holds(paper=paper, claim=claim), True, claim)

    def test_all_claims_with_all_papers(self):
        found = [(claim, paper) for claim, paper in exchanged(RIGHT) if holds(claim, paper)]
        self.same(found, [(claim, paper) for claim, paper in exchanged(RIGHT) if so(claim, paper)])
        self.assertLess(len(found), 3 * len(RIGHT))

    def test_one_fault(self):
        # Now and then what has a fault is still so: a paper in another order, say, or a load that shows it as well.
        source = random.Random(291)
        told = {}
        for claim, paper in RIGHT:
            for _ in range(300):
                wrong = faulty((claim, paper), source)
                if type(wrong) is tuple and len(wrong) == 2:
                    expected = so(*wrong)
                    self.assertIs(holds(*wrong), expected, wrong)
                    told[expected] = told.get(expected, 0) + 1
        self.assertGreater(told[True], 50)
        self.assertGreater(told[False], 4000)

    def test_one_fault_in_a_paper(self):
        source = random.Random(292)
        for claim, paper in RIGHT:
            for _ in range(200):
                wrong = faulty(paper, source)
                self.assertIs(holds(claim, wrong), so(claim, wrong), (claim, wrong))

    def test_each_element_replaced_by_each_strange_thing(self):
        for claim, paper in RIGHT:
            for at in range(len(claim)):
                for thing in STRANGE + (Anything(), nested(30)):
                    wrong = claim[:at] + (thing,) + claim[at + 1:]
                    self.assertIs(holds(wrong, paper), so(wrong, paper), (wrong, paper))
            for thing in STRANGE + (Anything(), nested(30), list(paper), str(paper), dict(enumerate(paper)), paper * 2):
                self.assertIs(holds(claim, thing), so(claim, thing), (claim, thing))


class Anyhow(Case):
    """It raises nothing, whatever is handed in."""

    def test_no_claims(self):
        for claim in STRANGE + (Anything(), nested(30), ("",), ("one",), ("One", 1, 2, 3), (1, 2), [1], (["one"],),
                                (Anything(),) * 4, ("fewest", Anything()), ("idle",) * 3, ("run",) * 6, "fewest"):
            for paper in STRANGE + (Anything(), nested(30), claim):
                self.assertIs(holds(claim, paper), False)

    def test_what_is_only_like_a_claim(self):
        class Row(tuple):
            def __len__(self):
                raise RuntimeError("no length")

        class Word(str):
            def __eq__(self, other):
                return True

            __hash__ = str.__hash__

        class Number(int):
            def __lt__(self, other):
                raise RuntimeError("no order")

        for claim, paper in RIGHT:
            self.assertIs(holds(Row(claim), paper), False)
            self.assertIs(holds(claim, Row(paper) if type(paper) is tuple else paper), False)
            self.assertIs(holds((Word(claim[0]), *claim[1:]), paper), False)
            self.assertIs(holds((claim[0], Word(claim[1]), *claim[2:]), paper), False)
            self.assertIs(holds((*claim, Number(1)), paper), False)
        claim, paper = certify_greatest(WEB, ("b",), (("y", -1),))
        self.assertIs(holds((*claim[:4], Number(0)), paper), False)
        self.assertIs(holds(claim, tuple((rest, Number(0)) for rest, _ in paper)), False)

    def test_claims_are_not_changed(self):
        for claim, paper in RIGHT:
            before = (repr(claim), repr(paper))
            holds(claim, paper)
            self.same((repr(claim), repr(paper)), before)

    def test_texts(self):
        wrong = ("", "takes", "takes a", "takes a\n0 a 1", "Takes a\n0 a 0", str(WEB) + "\n", " " + str(WEB), str(WEB)[:-1],
                 "takes a\n0 a 0 sends 1 a", "takes a\n0 a 0 sends 1 b\nand\ntakes b\n0 b 0 sends 1 a",
                 "takes a b\n0 a 1\n0 b 0\n1 a 1\n1 b 1 sends 1 x", str(COUNTED) + "\nand\n" + str(COUNTED), str(SUM),
                 "\nand\n".join(f"takes {kind}\n0 {kind} 0" for kind in "abcdef"),
                 "\nand\n".join("takes " + " ".join(f"{kind}{at}" for at in range(5)) + "".join(
                     f"\n0 {kind}{at} 0" for at in range(5)) for kind in "ab"))
        for claim, paper in RIGHT:
            for text in wrong:
                # That of a handler that sends to itself is no text of a web, but one of a handler.
                lone = claim[0] in ("apart", "meddle", "fewest") and text == "takes a\n0 a 0 sends 1 a"
                self.assertIs(holds((claim[0], text, *claim[2:]), paper), lone and len(paper[0]) == 1)
                if claim[0] in ("one", "alike", "unlike"):
                    at = 3 if claim[0] == "one" else 2
                    self.assertIs(holds(claim[:at] + (text,) + claim[at + 1:], paper), False)
        both = str(COUNTED) + "\nand\n" + str(dealer("d", ("x",)))
        self.assertIs(holds(("fewest", both), certify_fewest(COUNTED)[1]), False)
        heeds = "takes a b\n0 a 1\n0 b 0\n1 a 1\n1 b 1 sends 1 x"
        self.assertIs(holds(("meddle", heeds, ("a",)), (("a", 1), ("b", 1))), False)


class Opposites(Case):
    def refuses(self, claim, papers):
        for paper in papers:
            self.assertIs(holds(claim, paper), False)

    def test_of_alike_webs(self):
        same = folded(WEB, (0, 1))
        loads = [Load(*pairs).pairs for pairs in itertools.product((("a", 1), ("a", 9)), (("b", 1), ("b", 7)))]
        self.refuses(("unlike", str(WEB), str(same), ("a", "b")), loads + [()])
        load = web_parting(WEB, OTHER, ("a", "b")).pairs
        self.refuses(("alike", str(WEB), str(OTHER), ("a", "b")), [load, (), (((0, 0), (0, 0, 0)),)])

    def test_of_sums(self):
        number, load = greatest(WEB, ("a", "b"), SUM)
        claim, paper = certify_greatest(WEB, ("a", "b"), SUM)
        self.same(claim[4], number)
        self.refuses(("above", str(WEB), ("a", "b"), SUM, number), [load.pairs, (("a", 7),), ()])
        self.refuses(("never above", str(WEB), ("a", "b"), SUM, number - 1), [paper])
        self.assertIs(holds(("above", str(WEB), ("a", "b"), SUM, number - 1), load.pairs), True)
        self.assertIs(holds(("never above", str(WEB), ("a", "b"), SUM, number + 1), paper), True)
        self.refuses(("without end", str(WEB), ("a", "b"), SUM), [((), load.pairs), ((), (("a", 12),)), ((), ())])

    def test_of_kinds_that_meddle(self):
        self.refuses(("meddle", str(BY_TWOS), ("c",)), [(("a", 3), ("c", 3)), (), (("c", GREAT),)])
        triples = tuple(itertools.product(range(3), repeat=3))
        self.refuses(("apart", str(COUNTED), ("a",)), [triples, (), ((0, 0, 0),)])
        self.assertIs(holds(("meddle", str(COUNTED), ("a",)), meddling(COUNTED, ("b",)).pairs), True)

    def test_more_states_than_are_needed(self):
        many = every(("a",), 1, "x")
        more = Handler.read("takes a\n0 a 1 sends 1 x\n1 a 0 sends 1 x")
        tests = ((), (("a", 1),), (("a", 7),))
        self.refuses(("fewest", str(more)), [(((), (("a", 1),)), (test,)) for test in tests])
        self.assertIs(holds(("fewest", str(many)), (((("a", 5),),), ())), True)
        unreached = Handler.read("takes a\n0 a 0 sends 1 x\n1 a 0")
        self.refuses(("fewest", str(unreached)), [(((), (("a", 1),)), ((("a", 1),),)), (((),), ())])


class Single(Case):
    """Some things that are said of one kind of claim."""

    def test_states_to_which_nothing_leads(self):
        handler = "takes a\n0 a 0 sends 1 x\n1 a 1 sends 1 x"
        web = str(copier("a", Load(("x", 1))))
        self.assertIs(holds(("one", web, ("a",), handler), (((0,), 0),)), True)
        self.assertIs(holds(("one", web, ("a",), handler), (((0,), 1), ((0,), 0))), True)
        self.assertIs(holds(("one", web, ("a",), handler), (((0,), 1),)), False)
        self.assertIs(holds(("one", web, ("a",), handler), (((0,), 0), ((0,), 2))), False)
        self.assertIs(holds(("one", handler, ("a",), handler), (((0,), 0), ((1,), 1))), False)
        both = "takes a b\n0 a 0\n0 b 0\n1 a 1\n1 b 1"
        self.assertIs(holds(("apart", both, ("a",)), ((0, 0, 0), (1, 1, 1), (0, 1, 0))), True)
        self.assertIs(holds(("apart", both, ("a",)), ((0, 0, 0), (1, 1, 2))), False)

    def test_names_that_leave_and_those_that_are_taken(self):
        # A handler that sends a kind of the web does not do the same, since the web does not send it out.
        web = Web(copier("a", Load(("b", 1))), copier("b", Load()))
        self.assertIs(holds(("one", str(web), ("a",), str(copier("a", Load()))), (((0, 0), 0),)), True)
        self.assertIs(holds(("one", str(web), ("a",), str(copier("a", Load(("b", 1))))), (((0, 0), 0),)), False)

    def test_the_order_of_the_kinds(self):
        claim, paper = certify_one(WEB, ("b", "a"))
        table = least(as_one(WEB, ("a", "b")))
        self.assertIs(holds((*claim[:3], str(table)), paper), True)
        self.assertIs(holds((*claim[:2], ("a", "b"), claim[3]), paper), True)
        self.assertIs(holds((*claim[:2], ("a",), claim[3]), paper), False)
        self.assertIs(holds((*claim[:2], ("a", "b", "c"), claim[3]), paper), False)

    def test_heights(self):
        claim = ("never above", str(every(("a",), 3, "x")), ("a",), (("a", 1), ("x", -3)), 2)
        right = (((0,), 0), ((1,), 1), ((2,), 2))
        self.assertIs(holds(claim, right), True)
        self.assertIs(holds(claim, right[::-1]), True)
        self.assertIs(holds((*claim[:4], 5), (((0,), 3), ((1,), 4), ((2,), 5))), True)
        for wrong in ((((0,), -1), ((1,), 1), ((2,), 2)), (((0,), 0), ((1,), 1), ((2,), 3)), right[:2], right[1:], (),
                      (((0,), 0), ((1,), 0), ((2,), 2)), right + (((0,), 0),), right + (((0,), -1),),
                      (((0,), 0), ((1,), 1), ((2,), True))):
            self.assertIs(holds(claim, wrong), False)
        self.assertIs(holds((*claim[:4], 1), right), False)
        self.assertIs(holds((*claim[:3], (("a", 1), ("x", -2)), 2), right), False)
        # Below 0 nothing is shown, not even for a number below 0.
        down = ("never above", str(every(("a",), 3, "x")), ("a",), (("a", -1),), -1)
        self.assertIs(holds(down, (((0,), -1), ((1,), -1), ((2,), -1))), False)

    def test_terms(self):
        text = str(WEB)
        for terms, told in (((("x", 1),), True), ((("x", 1), ("y", 0), ("a", 0), ("b", 0)), True), ((), False),
                            ((("x", 1), ("x", 1)), False), ((("c", 1),), False), ((("z", 1), ("x", 1)), False),
                            ((("x", True),), False), ((["x", 1],), False), ([("x", 1)], False), ((("x", 1, 1),), False),
                            ((("x", 1),) + (("y", 0),) * 6, False)):
            self.assertIs(holds(("above", text, ("a", "b"), terms, 1), (("a", 20),)), told)
            self.assertIs(holds(("without end", text, ("a", "b"), terms), ((), (("a", 6),))), told)
        self.assertIs(holds(("above", text, ("a",), (("b", 1),), -1), ()), False)
        self.assertIs(holds(("above", text, ("a",), (("a", 1),), -1), ()), True)

    def test_two_loads_without_end(self):
        text = "takes a\n0 a 1 sends 1 x\n1 a 2\n2 a 1 sends 1 y"
        for loads, told in (((), False), (((), ()), False), (((), (("a", 2),)), False), (((("a", 1),), (("a", 2),)), True),
                            (((("a", 1),), (("a", 1),)), False), (((("a", GREAT),), (("a", 2 * GREAT),)), True),
                            (((("a", 1),), (("a", 2),), ()), False), (((("a", 1),), (("b", 2),)), False)):
            self.assertIs(holds(("without end", text, ("a",), (("y", 1),)), loads), told)
        self.assertIs(holds(("without end", text, ("a",), (("x", 1),)), ((("a", 1),), (("a", 2),))), False)
        self.assertIs(holds(("without end", text, ("a",), (("y", 2), ("a", -1))), ((("a", 1),), (("a", 2),))), False)

    def test_great_loads(self):
        web, back = str(WEB), str(BACK)
        many = (("a", 2 * GREAT), ("b", 10 ** 44))
        outs = WEB.run(Load(*many)).outs
        self.assertIs(holds(("above", web, ("a", "b"), (("x", 1),), outs["x"] - 1), many), True)
        self.assertIs(holds(("above", web, ("a", "b"), (("x", 1),), outs["x"]), many), False)
        self.assertIs(holds(("unlike", web, str(OTHER), ("a", "b")), many), True)
        self.assertIs(holds(("meddle", str(COUNTED), ("a",)), (("a", 3 * GREAT + 1), ("b", 3 * GREAT + 2))), True)
        self.assertIs(holds(("meddle", str(COUNTED), ("a",)), (("a", 3 * GREAT), ("b", 3 * GREAT + 2))), False)
        ways = ((("a", 3 * GREAT),), (("b", 3 * GREAT + 1),), (("a", 2),))
        self.assertIs(holds(("fewest", str(COUNTED)), (ways, ((("a", 3 * GREAT + 2),),) * 3)), False)
        tests = ((("a", 3 * GREAT + 2),), (("b", 1),), (("b", 3 * GREAT + 1),))
        self.assertIs(holds(("fewest", str(COUNTED)), (ways, tests)), True)
        claim, paper = certify_run(BACK, Load(("a", GREAT), ("b", GREAT + 1)))
        self.assertIs(holds(claim, paper), True)
        self.assertIs(holds((*claim[:3], (("a", GREAT), ("b", GREAT)), *claim[4:]), paper), False)
        self.assertIs(holds(("run", back, *claim[2:]), paper), True)

    def test_the_order_of_tests(self):
        handler = dealer("a", ("x", "y", "y", "x", "y", "x"))
        claim, (ways, tests) = certify_fewest(handler)
        self.assertIs(holds(claim, (ways, tests)), True)
        for one, other in itertools.combinations(range(len(tests)), 2):
            moved = list(tests)
            moved[one], moved[other] = tests[other], tests[one]
            paper = (ways, tuple(moved))
            self.assertIs(holds(claim, paper), so(claim, paper))

    def test_six_hundred_states(self):
        kinds = tuple("abcdefgh")
        handler = Handler(*meter(kinds, (1, 7, 11, 13, 17, 23, 31, 599), 600))
        claim, paper = certify_one(Web(handler), kinds)
        self.assertIs(holds(claim, paper), True)
        self.assertIs(holds(claim, paper[:300] + paper[301:]), False)


if __name__ == "__main__":
    unittest.main()
