"""Reports, promise 3: tables of steps and of means, to the sign."""

import random
import unittest
from fractions import Fraction

from everyload.errors import NotAHandler, NotAWeb
from everyload.handlers import Handler
from everyload.loads import Load
from everyload.reports import mean_table, step_table
from everyload.samples import copier, dealer, every, sample_web
from everyload.sums import means
from everyload.webs import Web
from tests.support import Case
from tests.test_come_to import NO_WEBS
from tests.test_least import NO_HANDLERS
from tests.webs import once, some_handler, some_web

GREAT = 10 ** 45


class Steps(Case):
    def test_the_sample(self):
        self.same(step_table(sample_web().handlers[2]), "0 piece>1 paint>1\n1 piece>2 paint>2\n2 piece>0 paint>0")
        self.same(step_table(handler=sample_web().handlers[1]), "0 cut>0")

    def test_states_that_are_not_reachable(self):
        handler = Handler.read("takes a b\n0 a 2\n0 b 0\n1 a 1 sends 1 x\n1 b 0\n2 a 0\n2 b 2\n3 a 3\n3 b 3")
        self.same(step_table(handler), "0 a>2 b>0\n1 -\n2 a>0 b>2\n3 -")

    def test_any_handlers(self):
        source = random.Random(331)
        for _ in range(60):
            kinds = tuple(source.sample(("a", "b2", "longname"), source.randint(1, 3)))
            handler = some_handler(source, kinds, ["x"])
            lines = step_table(handler).split("\n")
            self.same(len(lines), len(handler))
            for state, line in enumerate(lines):
                if state in handler.reachable:
                    steps = [f"{kind}>{handler.step(state, kind)[0]}" for kind in kinds]
                    self.same(line, " ".join([str(state)] + steps))
                else:
                    self.same(line, f"{state} -")

    def test_six_hundred_states(self):
        lines = step_table(every(("a", "b"), 600, "x")).split("\n")
        self.same([len(lines), lines[0], lines[599]], [600, "0 a>1 b>1", "599 a>0 b>0"])

    def test_no_handlers(self):
        for value in NO_HANDLERS:
            self.fails(NotAHandler, {"value": value}, step_table, value)


class Means(Case):
    def test_the_sample(self):
        self.same(mean_table(sample_web()), "order label    0.600\ncut   label    0.800\npiece label    0.400\n"
                                            "paint label    0.400\nbox   label    1.200")

    def test_several_outs(self):
        web = Web(dealer("a", ("x", "y", "b")), every(("b", "longname"), 7, "z"))
        self.same(mean_table(web=web), "a        x    0.333 y    0.333 z    0.047\n"
                                       "b        x    0.000 y    0.000 z    0.142\n"
                                       "longname x    0.000 y    0.000 z    0.142")

    def test_no_outs(self):
        self.same(mean_table(Web(copier("ab", Load()), copier("b", Load()), every(("abcd",), 3, "b"))), "ab  \nb   \nabcd")

    def test_great_means(self):
        web = Web(copier("a", Load(("x", 1234))), copier("b", Load(("x", 12345))), copier("c", Load(("x", GREAT))),
                  once("d", 3, {"x": GREAT + 1}), copier("e", Load(("x", 123))))
        self.same(mean_table(web).split("\n"), [
            "a x 1234.000", "b x 12345.000", "c x 1" + "0" * 45 + ".000", "d x " + "3" * 45 + ".666", "e x  123.000"])
        far = Web(copier("a", Load(("x", 10 ** 5000))))
        self.same(mean_table(far), "a x 1" + "0" * 5000 + ".000")

    def test_rounded_down(self):
        for over, under, text in ((1, 3, "0.333"), (2, 3, "0.666"), (1, 600, "0.001"), (599, 600, "0.998"), (1, 16, "0.062"),
                                  (1999, 1, "1999.000"), (19999, 10, "1999.900"), (8, 600, "0.013"), (5999, 600, "9.998")):
            web = Web(once("a", under, {"x": over}))
            self.same(mean_table(web), "a x " + text.rjust(8))

    def test_any_webs(self):
        source = random.Random(332)
        for _ in range(60):
            web = some_web(source, size=3)
            lines = mean_table(web).split("\n")
            self.same(len(lines), len(web.kinds))
            for line, (kind, row) in zip(lines, means(web)):
                wide = max(map(len, web.kinds))
                self.same(line[:wide], kind.ljust(wide))
                rest = line[wide:]
                for out, mean in row:
                    head = f" {out} "
                    self.assertTrue(rest.startswith(head))
                    told = rest[len(head):].split(" " + "x ")[0] if out != row[-1][0] else rest[len(head):]
                    figure = told.strip()
                    self.same(told, figure.rjust(8))
                    self.same(Fraction(figure), Fraction(int(Fraction(*mean) * 1000), 1000))
                    self.same(len(figure.split(".")[1]), 3)
                    rest = rest[len(head) + len(told):]
                self.same(rest, "")

    def test_no_webs(self):
        for value in NO_WEBS:
            self.fails(NotAWeb, {"value": value}, mean_table, value)


if __name__ == "__main__":
    unittest.main()
