"""Desks, promise 8: deeds that are done all or none, and trials."""

import contextlib
import random
import unittest

from everyload.desks import Desk, attempt
from everyload.errors import Busy, Endless, InvalidDeeds, InvalidIndexes, InvalidNumber, NotAHandler, NotALoad
from everyload.errors import NothingToUndo, Refused, TooManyStates, UnknownKind
from everyload.loads import Load
from everyload.samples import copier, dealer, sample_web
from tests.support import STRANGE, Anything, Case, nested
from tests.test_come_to import WEB
from tests.test_desks import do, some_deed, some_desk, told, twice_as_many

TAKE = ("take", Load(("order", 3)))
FOLD = ("fold", (1, 2))
EXCHANGE = ("exchange", 0, dealer("order", ("cut", "paint") * 3))
NO_DEEDS = STRANGE + ("take", ("take",), ("take", Load(), Load()), ["take", Load()], ("fold",), ("fold", (0,), 1),
                      ("exchange", 0), ("exchange", copier("a", Load())), ("exchange", 0, None, 0), ("undo",),
                      ("trial",), ("do_all", TAKE), ("Take", Load()), ("take ", Load()), (("take",), Load()), (1, 2),
                      (None, None), (True, Load()), (b"take", Load()), (Anything(), Load()), Anything(), nested(29), ())


class Stop(Exception):
    pass


class Away(BaseException):
    pass


def some_desk_at_work(source):
    desk = some_desk(source, size=2)
    for _ in range(source.randint(0, 3)):
        with contextlib.suppress(TooManyStates):
            do(desk, some_deed(source, desk))
    return desk


def all_that_is_busy(desk):
    """All calls that raise Busy while deeds are done, with what would be wrong in other ways, too."""
    return ((desk.take, Load()), (desk.take, None), (desk, Load()), (desk, 1), (desk.exchange, 9, None), (desk.fold, None),
            (desk.do_all,), (desk.do_all, None), (desk.do_all, ("take", Load())), (desk.undo,), (desk.trial,),
            (attempt, desk, None))


class AllOrNone(Case):
    def test_the_same_as_one_by_one(self):
        source = random.Random(271)
        for _ in range(60):
            desk = some_desk_at_work(source)
            other = Desk(desk.first, desk.entries)
            for deed in desk.log:
                do(other, deed)
            deeds = []
            for _ in range(source.randint(0, 5)):
                deed = some_deed(source, other)
                with contextlib.suppress(TooManyStates):
                    do(other, deed)
                    deeds.append(deed)
            self.same(desk.do_all(*deeds), None)
            self.same(told(desk), told(other))
            for _ in deeds:
                desk.undo()
                other.undo()
                self.same(told(desk), told(other))

    def test_no_deeds(self):
        desk = Desk(sample_web(), ("order",))
        self.same([desk.do_all(), desk.do_all(watch=None), desk.do_all(watch=lambda same, at: 1 // 0)], [None] * 3)
        self.same(told(desk), told(Desk(sample_web(), ("order",))))

    def test_they_stand_in_the_log_as_they_were_passed(self):
        desk = Desk(sample_web(), ("order",))
        desk.do_all(TAKE, EXCHANGE, FOLD, TAKE)
        self.same(desk.log, (TAKE, EXCHANGE, FOLD, TAKE))
        for one, other in zip(desk.log, (TAKE, EXCHANGE, FOLD, TAKE)):
            self.assertIs(one, other)
        self.same([len(desk), str(desk.taken), str(desk.sent)], [4, "6 order", "3 label"])

    def test_no_words_of_deeds(self):
        desk = Desk(sample_web(), ("order",))
        desk.take(Load(("order", 2)))
        before = told(desk)
        for deed in NO_DEEDS:
            self.fails(InvalidDeeds, {"index": 0}, desk.do_all, deed)
            self.fails(InvalidDeeds, {"index": 0}, desk.do_all, deed, deed, TAKE)
            # Nothing is done ahead of this, not even what would raise an error itself.
            self.fails(InvalidDeeds, {"index": 2}, desk.do_all, ("take", None), TAKE, deed, FOLD, watch=self.fail)
            self.same(told(desk), before)

    def test_the_first_error(self):
        desk = Desk(sample_web(), ("order",))
        desk.take(Load(("order", 2)))
        before = told(desk)
        wrong = {
            NotALoad: (("take", None), {"value": None}), UnknownKind: (("take", Load(("box", 1))), {"value": "box"}),
            InvalidNumber: (("exchange", 4, None), {"value": 4}), NotAHandler: (("exchange", 3, 7), {"value": 7}),
            Refused: (("exchange", 0, dealer("order", ("paint", "cut"))), {"load": Load(("order", 5))}),
            Endless: (("exchange", 1, copier("cut", Load(("cut", 1)))), {}),
            InvalidIndexes: (("fold", (1, 1)), {"index": 1}),
        }
        for error, (deed, attributes) in wrong.items():
            for deeds in ((deed,), (TAKE, deed), (TAKE, EXCHANGE, deed, TAKE), (EXCHANGE, TAKE, deed, ("take", 1))):
                self.fails(error, attributes, desk.do_all, *deeds)
                self.same(told(desk), before)
        # The second place is gone when this is done.
        self.fails(InvalidNumber, {"value": 3}, desk.do_all, FOLD, ("exchange", 3, copier("box", Load())))
        self.fails(InvalidIndexes, {"index": 1}, desk.do_all, FOLD, ("fold", (0, 3)))
        self.same(told(desk), before)


class Watched(Case):
    def test_what_it_sees(self):
        source = random.Random(272)
        for _ in range(40):
            desk = some_desk_at_work(source)
            other = Desk(desk.first, desk.entries)
            desk_log = desk.log
            other.do_all(*desk_log)
            deeds, seen, expected = [], [], []
            for at in range(source.randint(1, 4)):
                deed = some_deed(source, other)
                with contextlib.suppress(TooManyStates):
                    do(other, deed)
                    deeds.append(deed)
                    expected.append((len(deeds) - 1, told(other)[:7] + (True,) + told(other)[8:]))

            def watch(same, at):
                self.assertIs(same, desk)
                seen.append((at, told(same)))
                return Stop()

            self.same(desk.do_all(*deeds, watch=watch), None)
            self.same(seen, expected)
            self.same(told(desk), told(other))

    def test_busy(self):
        desk = Desk(sample_web(), ("order",))
        calls = []

        def watch(same, at):
            for call, *values in all_that_is_busy(same):
                self.fails(Busy, {}, call, *values)
                calls.append(at)
            self.same([same.busy, len(same)], [True, at + 1])

        self.same(desk.do_all(TAKE, FOLD, TAKE, watch=watch), None)
        self.same([len(calls), desk.busy, len(desk), str(desk.sent)], [36, False, 3, "3 label"])
        desk.undo()
        self.same(desk.log, (TAKE, FOLD))

    def test_what_it_raises_is_passed_on(self):
        desk = Desk(sample_web(), ("order",))
        desk.take(Load(("order", 2)))
        before = told(desk)
        for error in (Stop, Away, ValueError, StopIteration, GeneratorExit, KeyboardInterrupt):
            for last in range(3):
                raised = error("so")

                def watch(same, at):
                    if at == last:
                        raise raised

                with self.assertRaises(error) as caught:
                    desk.do_all(TAKE, EXCHANGE, FOLD, watch=watch)
                self.assertIs(caught.exception, raised)
                self.same(told(desk), before)
        self.fails(Busy, {}, desk.do_all, TAKE, FOLD, watch=lambda same, at: same.undo())
        self.same(told(desk), before)
        desk.do_all(TAKE, watch=lambda same, at: None)
        self.same(len(desk), 2)

    def test_it_is_called_by_place(self):
        desk = Desk(WEB, ("a",))
        seen = []
        desk.do_all(("take", Load()), ("take", Load()), watch=lambda *values: seen.append(values))
        self.same([(values[0] is desk, *values[1:]) for values in seen], [(True, 0), (True, 1)])


class Trials(Case):
    def test_any_trials(self):
        source = random.Random(273)
        for _ in range(60):
            desk = some_desk_at_work(source)
            before = told(desk)
            with desk.trial() as same:
                self.assertIs(same, desk)
                self.same(told(desk), before)
                for _ in range(3):
                    with contextlib.suppress(TooManyStates, NothingToUndo):
                        desk.undo() if source.random() < 0.4 else do(desk, some_deed(source, desk))
                inside = told(desk)
                with desk.trial():
                    desk.take(Load())
                    desk.do_all(("take", Load()), ("fold", (0,)))
                self.same(told(desk), inside)
            self.same(told(desk), before)

    def test_in_whatever_manner_it_ends(self):
        desk = Desk(sample_web(), ("order",))
        desk.take(Load(("order", 2)))
        before = told(desk)
        for error in (Stop, Away, ValueError, GeneratorExit, KeyboardInterrupt):
            with self.assertRaises(error):
                with desk.trial():
                    desk.fold((0, 1))
                    raise error()
            self.same(told(desk), before)
        for _ in range(2):
            with desk.trial():
                desk.take(Load(("order", 1)))
                continue
        self.same(told(desk), before)
        self.same(self.returned(desk), "1 label")
        self.same(told(desk), before)
        with self.assertRaises(Refused):
            with desk.trial() as same:
                same.take(Load(("order", 1)))
                same.exchange(0, dealer("order", ("paint", "cut")))
        self.same(told(desk), before)

    def returned(self, desk):
        with desk.trial() as same:
            return str(same.take(Load(("order", 2))))

    def test_it_is_as_when_it_was_entered(self):
        desk = Desk(sample_web(), ("order",))
        trial = desk.trial()
        desk.take(Load(("order", 2)))
        before = told(desk)
        with trial:
            desk.undo()
            self.fails(NothingToUndo, {}, desk.undo)
        self.same(told(desk), before)

    def test_one_trial_entered_again(self):
        desk = Desk(sample_web(), ("order",))
        trial = desk.trial()
        with trial:
            desk.take(Load(("order", 2)))
            inside = told(desk)
            with trial as same:
                same.take(Load(("order", 3)))
            self.same(told(desk), inside)
        self.same(len(desk), 0)
        desk.fold((1, 2))
        before = told(desk)
        with trial:
            desk.undo()
        self.same(told(desk), before)

    def test_deeds_in_trials(self):
        desk = Desk(sample_web(), ("order",))
        with desk.trial() as same:
            self.fails(InvalidDeeds, {"index": 1}, same.do_all, TAKE, None)
            same.do_all(TAKE, FOLD)
            inside = told(same)
            with self.assertRaises(Stop):
                same.do_all(TAKE, watch=self.stop)
            self.same(told(same), inside)
        self.same(len(desk), 0)

    def stop(self, same, at):
        raise Stop()

    def test_attempts(self):
        desk = Desk(sample_web(), ("order",))
        before = told(desk)
        self.same(str(attempt(desk, lambda same: same.take(Load(("order", 5))))), "3 label")
        self.same(told(desk), before)
        self.same(attempt(desk, lambda same: attempt(same, lambda other: other is desk)), True)
        with self.assertRaises(Stop):
            attempt(desk, lambda same: [same.take(Load(("order", 5))), self.stop(same, 0)])
        self.same(told(desk), before)
        place = 2
        more = twice_as_many(desk.web.handlers[place])
        self.same(attempt(desk, lambda same: [same.exchange(place, more), len(same.web.handlers[place])][1]), 6)
        self.same(told(desk), before)


if __name__ == "__main__":
    unittest.main()
