"""Promise 6: walks, message by message."""

import random
import unittest

from everyload.errors import InvalidChoice, InvalidRest, NotALoad, UnknownKind
from everyload.handlers import Handler
from everyload.loads import Load
from everyload.samples import copier, dealer, every, sample_web
from everyload.webs import Web
from tests.support import STRANGE, Anything, Case, nested
from tests.webs import load_of, some_load, some_rest, some_web

GREAT = 10 ** 45


class Stop(Exception):
    pass


class Word(str):
    pass


def first(kinds):
    return kinds[0]


def last(kinds):
    return kinds[-1]


class Walking(Case):
    def test_the_triples(self):
        web = Web(Handler.read("takes b\n0 b 1 sends 1 x\n1 b 0 sends 2 a, 1 x"), every(("a",), 3, "b"))
        told = list(web.walk(Load(("a", 1), ("b", 2)), last))
        self.same(told, [("b", (1, 0), Load(("a", 1), ("b", 1))), ("b", (0, 0), Load(("a", 3))),
                         ("a", (0, 1), Load(("a", 2))), ("a", (0, 2), Load(("a", 1))), ("a", (0, 0), Load(("b", 1))),
                         ("b", (1, 0), Load())])

    def test_what_choose_is_called_with(self):
        web = sample_web()
        asked = []

        def choose(kinds):
            asked.append(kinds)
            return kinds[0]

        told = list(web.walk(Load(("order", 2), ("paint", 1)), choose))
        waiting = [Load(("order", 2), ("paint", 1))] + [load for _, _, load in told]
        self.same(asked, [load.names for load in waiting[:-1]])
        self.same(asked[:3], [("order", "paint"), ("cut", "order", "paint"), ("order", "paint", "piece")])
        self.same([kind for kind, _, _ in told], [kinds[0] for kinds in asked])

    def test_choose_is_called_ahead_of_each_message_and_not_before(self):
        asked = []
        walk = Web(dealer("a", ("x", "y"))).walk(Load(("a", 3)), lambda kinds: asked.append(kinds) or "a")
        self.same(asked, [])
        for many, state in ((1, 1), (2, 0), (3, 1)):
            self.same(next(walk), ("a", (state,), load_of({"a": 3 - many})))
            self.same(len(asked), many)
        self.assertRaises(StopIteration, next, walk)
        self.same(asked, [("a",)] * 3)

    def test_any_walks(self):
        source = random.Random(51)
        for _ in range(80):
            web = some_web(source, size=5, density=0.3)
            load, rest = some_load(source, web.kinds, 6), some_rest(source, web)
            outcome = web.run(load, rest=rest)
            for choose in (first, last, source.choice):
                self.agrees(web, load, rest, choose, outcome)

    def agrees(self, web, load, rest, choose, outcome):
        states, waiting, taken, out = list(rest), load, Load(), Load()
        for kind, behind, left in web.walk(load, choose, rest=rest):
            place = web.place(kind)
            states[place], sent = web.handlers[place].step(states[place], kind)
            inside = load_of({name: count for name, count in sent.pairs if name in web.kinds})
            waiting = waiting - Load((kind, 1)) + inside
            taken, out = taken + Load((kind, 1)), out + (sent - inside)
            self.same((behind, left), (tuple(states), waiting))
        self.same([waiting, tuple(states), out, taken], [Load(), outcome.rest, outcome.outs, outcome.delivered])

    def test_the_empty_load(self):
        asked = []
        self.same(list(sample_web().walk(Load(), asked.append)), [])
        self.same(list(sample_web().walk(Load(), None, rest=(1, 0, 2, 1))), [])
        self.same(asked, [])

    def test_from_a_rest(self):
        web = Web(dealer("a", ("x", "b", "b")), copier("b", Load()))
        told = list(web.walk(Load(("a", 2)), first, rest=(2, 0)))
        self.same([(kind, states) for kind, states, _ in told], [("a", (0, 0)), ("a", (1, 0)), ("b", (1, 0))])

    def test_great_loads(self):
        web = Web(copier("a", Load(("b", GREAT))), dealer("b", ("x", "y")))
        walk = web.walk(Load(("a", GREAT)), last)
        self.same(next(walk), ("a", (0, 0), Load(("a", GREAT - 1), ("b", GREAT))))
        self.same(next(walk), ("b", (0, 1), Load(("a", GREAT - 1), ("b", GREAT - 1))))

    def test_arguments_by_name(self):
        web = sample_web()
        load = Load(("order", 3))
        self.same(list(web.walk(choose=first, rest=None, load=load)), list(web.walk(load, first)))
        self.assertRaises(TypeError, web.walk, load, first, (0, 0, 0, 0))

    def test_walks_beside_one_another(self):
        web = sample_web()
        load = Load(("order", 4))
        together = list(zip(web.walk(load, first), web.walk(load, first)))
        self.same([one for one, _ in together], list(web.walk(load, first)))
        self.same([other for _, other in together], list(web.walk(load, first)))
        self.same([web, load], [sample_web(), Load(("order", 4))])

    def test_a_string_of_another_class(self):
        told = list(Web(dealer("a", ("x",))).walk(Load(("a", 1)), lambda kinds: Word("a")))
        self.same(told, [("a", (0,), Load())])


class Refused(Case):
    def refused(self, error, attributes, *values, **named):
        walk = sample_web().walk(*values, **named)
        self.fails(error, attributes, next, walk)

    def test_the_arguments(self):
        for value in STRANGE + ("1 order", Anything(), nested(30)):
            self.refused(NotALoad, {"value": value}, value, first, rest="none")
        self.refused(UnknownKind, {"value": "label"}, Load(("order", 1), ("label", 1), ("z", 1)), first, rest="none")
        for rest in [value for value in STRANGE if value is not None] + [(0, 0, 0), (0, 0, 3, 0), (0, 0, True, 0)]:
            self.refused(InvalidRest, {"value": rest}, Load(("order", 1)), first, rest=rest)
            self.refused(InvalidRest, {"value": rest}, Load(), first, rest=rest)

    def test_a_choice_that_does_not_wait(self):
        for value in STRANGE + ("cut", "box", "label", "orde", "Order", ("order",), Anything(), nested(30), Load()):
            self.refused(InvalidChoice, {"value": value}, Load(("order", 1)), lambda kinds: value)

    def test_a_choice_that_no_longer_waits(self):
        walk = sample_web().walk(Load(("order", 1)), lambda kinds: "order")
        self.same(next(walk), ("order", (1, 0, 0, 0), Load(("cut", 1))))
        self.fails(InvalidChoice, {"value": "order"}, next, walk)
        self.assertRaises(StopIteration, next, walk)

    def test_what_choose_raises(self):
        asked = []

        def choose(kinds):
            asked.append(kinds)
            if len(asked) == 3:
                raise Stop(kinds)
            return kinds[0]

        told = []
        with self.assertRaises(Stop) as caught:
            for triple in sample_web().walk(Load(("order", 5)), choose):
                told.append(triple)
        self.same([len(told), caught.exception.args], [2, (asked[2],)])


if __name__ == "__main__":
    unittest.main()
