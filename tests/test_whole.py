"""Promise 5 over the whole program: parameters by name, the order of errors, limits, and that nothing is altered."""

import inspect
import itertools
import random
import unittest

from everyload import alike, certificates, checker, console, desks, errors, folding, handlers, lasting, loads, meddling
from everyload import reports, samples, sums, webs
from everyload.handlers import Handler
from everyload.loads import Load
from everyload.samples import copier, dealer, every, sample_web
from everyload.webs import Web
from tests.support import Case
from tests.test_come_to import long_way
from tests.test_desks import told

HANDLER = every(("a", "b"), 3, "c")
WEB = Web(HANDLER, dealer("c", ("x", "y")))
LAST = (2, 1)
ONE, MANY = Load(("a", 1)), Load(("a", 5), ("b", 2))
TERMS = (("a", 1), ("x", -3))
CLAIM, PAPER = certificates.certify_fewest(HANDLER)

# What is called, what is right for each parameter, and for each one what is wrong, with the error that is due.
NO_WEB = (("web", 5, errors.NotAWeb),)
NO_HANDLER = (("handler", 5, errors.NotAHandler),)
NO_ENTRIES = (("entries", ("a", "a"), errors.InvalidEntries),)
NO_TERMS = (("terms", (), errors.InvalidTerms),)
NO_LOAD = (("load", 5, errors.NotALoad), ("load", Load(("z", 1)), errors.UnknownKind))
NO_REST = (("rest", (0, 2), errors.InvalidRest),)
NO_OTHER = (("other", 5, errors.NotAWeb),)
NO_KINDS = (("kinds", (), errors.InvalidKinds),)
CALLS = [
    (loads.compare, {"one": ONE, "other": MANY, "kinds": ("a", "b")},
     (("one", 5, errors.NotALoad), ("other", 5, errors.NotALoad), *NO_KINDS, ("one", Load(("z", 1)), errors.UnknownKind))),
    (samples.every, {"kinds": ("a",), "count": 2, "out": "x"},
     (*NO_KINDS, ("count", 0, errors.InvalidNumber), ("out", "", errors.InvalidName))),
    (samples.dealer, {"kind": "a", "outs": ("x",)}, (("kind", "", errors.InvalidName), ("outs", (), errors.InvalidNames))),
    (samples.copier, {"kind": "a", "sent": ONE}, (("kind", "", errors.InvalidName), ("sent", 5, errors.NotALoad))),
    (folding.come_to, {"web": WEB, "entries": ("a",)}, NO_WEB + NO_ENTRIES),
    (folding.way_to, {"web": WEB, "entries": ("a",), "rest": LAST}, NO_WEB + NO_ENTRIES + NO_REST),
    (folding.as_one, {"web": WEB, "entries": ("a",)}, NO_WEB + NO_ENTRIES),
    (folding.least, {"handler": HANDLER}, NO_HANDLER),
    (folding.folded, {"web": WEB, "places": (0,)}, NO_WEB + (("places", (2,), errors.InvalidIndexes),)),
    (alike.parting, {"one": HANDLER, "other": HANDLER},
     (("one", 5, errors.NotAHandler), ("other", 5, errors.NotAHandler), ("other", dealer("a", ("x",)), errors.NotComparable))),
    (alike.alike, {"one": HANDLER, "other": HANDLER},
     (("one", 5, errors.NotAHandler), ("other", 5, errors.NotAHandler), ("other", dealer("a", ("x",)), errors.NotComparable))),
    (alike.web_parting, {"web": WEB, "other": WEB, "entries": ("a",)}, NO_WEB + NO_OTHER + NO_ENTRIES),
    (alike.webs_alike, {"web": WEB, "other": WEB, "entries": ("a",)}, NO_WEB + NO_OTHER + NO_ENTRIES),
    (sums.worth, {"web": WEB, "entries": ("a", "b"), "terms": TERMS, "load": MANY}, NO_WEB + NO_ENTRIES + NO_TERMS + NO_LOAD),
    (sums.greatest, {"web": WEB, "entries": ("a",), "terms": TERMS}, NO_WEB + NO_ENTRIES + NO_TERMS),
    (sums.passing, {"web": WEB, "entries": ("a",), "terms": TERMS, "bound": 7},
     NO_WEB + NO_ENTRIES + NO_TERMS + (("bound", True, errors.InvalidNumber),)),
    (sums.means, {"web": WEB}, NO_WEB),
    (lasting.lasting_count, {"web": WEB}, NO_WEB),
    (lasting.factors, {"web": WEB}, NO_WEB),
    (lasting.some_lasting, {"web": WEB}, NO_WEB),
    (lasting.is_lasting, {"web": WEB, "rest": LAST}, NO_WEB + NO_REST),
    (lasting.idle, {"web": WEB, "load": MANY}, NO_WEB + NO_LOAD),
    (lasting.same_effect, {"web": WEB, "one": ONE, "other": MANY},
     NO_WEB + (("one", 5, errors.NotALoad), ("one", Load(("z", 1)), errors.UnknownKind), ("other", 5, errors.NotALoad),
               ("other", Load(("z", 1)), errors.UnknownKind))),
    (lasting.period, {"web": WEB, "kind": "a"}, NO_WEB + (("kind", "z", errors.UnknownKind),)),
    (lasting.undoing, {"web": WEB, "load": MANY}, NO_WEB + NO_LOAD),
    (lasting.between, {"web": WEB, "rest": LAST, "other": (0, 0)}, NO_WEB + NO_REST + (("other", (3, 0), errors.InvalidRest),)),
    (meddling.meddling, {"handler": HANDLER, "kinds": ("a",)}, NO_HANDLER + NO_KINDS),
    (meddling.parts, {"handler": every(("a", "b"), 1, "x"), "kinds": ("b",)}, NO_HANDLER + NO_KINDS),
    (meddling.groups, {"handler": HANDLER}, NO_HANDLER),
    (desks.Desk, {"web": WEB, "entries": ("a",)}, NO_WEB + NO_ENTRIES),
    (checker.holds, {"claim": CLAIM, "paper": PAPER}, ()),
    (certificates.certify_one, {"web": WEB, "entries": ("a",)}, NO_WEB + NO_ENTRIES),
    (certificates.certify_alike, {"web": WEB, "other": WEB, "entries": ("a",)}, NO_WEB + NO_OTHER + NO_ENTRIES),
    (certificates.certify_greatest, {"web": WEB, "entries": ("a",), "terms": TERMS}, NO_WEB + NO_ENTRIES + NO_TERMS),
    (certificates.certify_run, {"web": WEB, "load": MANY, "rest": LAST}, NO_WEB + NO_LOAD + NO_REST),
    (certificates.certify_idle, {"web": WEB, "load": MANY}, NO_WEB + NO_LOAD),
    (certificates.certify_apart, {"handler": HANDLER, "kinds": ("a",)}, NO_HANDLER + NO_KINDS),
    (certificates.certify_fewest, {"handler": HANDLER}, NO_HANDLER),
    (reports.step_table, {"handler": HANDLER}, NO_HANDLER),
    (reports.mean_table, {"web": WEB}, NO_WEB),
    (console.Console, {"web": WEB, "entries": ("a",)}, NO_WEB + NO_ENTRIES),
]
# The signatures of what is listed for classes, and of the two that stand beside them.
SIGNATURES = {
    loads.Load: {"of": "(pairs)", "read": "(text)", "pairs": None, "names": None, "size": None, "__getitem__": 2,
                 "__contains__": 2, "__len__": 1, "__add__": 2, "__sub__": 2, "__or__": 2, "__and__": 2, "__mul__": 2,
                 "__rmul__": 2, "__le__": 2, "__lt__": 2, "__ge__": 2, "__gt__": 2, "__eq__": 2, "__str__": 1, "__repr__": 1},
    handlers.Handler: {"read": "(text)", "kinds": None, "rows": None, "sent": None, "reachable": None, "__len__": 1,
                       "step": "(self, state, kind)", "after": "(self, load, *, state=0)", "renamed": "(self, pairs)",
                       "__eq__": 2, "__str__": 1, "__repr__": 1},
    webs.Web: {"read": "(text)", "handlers": None, "kinds": None, "outs": None, "start": None,
               "run": "(self, load, *, rest=None)", "walk": "(self, load, choose, *, rest=None)", "joined": "(self, other)",
               "place": "(self, kind)", "__len__": 1, "__eq__": 2, "__str__": 1, "__repr__": 1},
    webs.Outcome: {"outs": None, "delivered": None, "__eq__": 2, "__repr__": 1},
    desks.Desk: {"take": "(self, load)", "__call__": "(self, load)", "exchange": "(self, place, handler)",
                 "fold": "(self, places)", "do_all": "(self, *deeds, watch=None)", "undo": "(self)", "trial": "(self)",
                 "web": None, "first": None, "entries": None, "taken": None, "sent": None, "log": None, "busy": None,
                 "__len__": 1, "__repr__": 1},
    console.Console: {"say": "(self, line)"},
}


def shown(value):
    """A text of all that a value tells of itself."""
    if isinstance(value, (Load, Handler, Web)):
        return f"{value!r} {value}"
    if isinstance(value, desks.Desk):
        return repr([shown(part) for part in told(value)])
    if isinstance(value, console.Console):
        return repr([value.say(line) for line in ("rest", "taken", "sent", "web")])
    if isinstance(value, tuple):
        return repr([shown(part) for part in value])
    return repr(value)


class Parameters(Case):
    def test_what_is_defined_where(self):
        for module in (alike, certificates, checker, console, desks, folding, handlers, lasting, loads, meddling, reports,
                       samples, sums, webs):
            own = {name for name, value in vars(module).items() if getattr(value, "__module__", None) == module.__name__}
            listed = {call.__name__ for call, _, _ in CALLS if call.__module__ == module.__name__}
            listed |= {kind.__name__ for kind in SIGNATURES if kind.__module__ == module.__name__}
            self.assertTrue(listed and listed <= own)

    def test_by_name_in_any_order(self):
        for call, right, _ in CALLS:
            by_name_only = {name for name, told_of in inspect.signature(call).parameters.items()
                            if told_of.kind == told_of.KEYWORD_ONLY}
            by_place = [value for name, value in right.items() if name not in by_name_only]
            expected = shown(call(*by_place, **{name: right[name] for name in by_name_only}))
            for order in itertools.permutations(right.items()):
                self.same(shown(call(**dict(order))), expected)

    def test_the_names_are_those_of_the_document(self):
        for call, right, _ in CALLS:
            self.same(list(inspect.signature(call).parameters), list(right))

    def test_methods_stand_in_their_classes(self):
        for kind, listed in SIGNATURES.items():
            for name, signature in listed.items():
                own = vars(kind)[name]
                if signature is None:
                    self.assertIs(type(own), property)
                elif isinstance(signature, int):
                    self.same(len(inspect.signature(own).parameters), signature)
                else:
                    self.same(str(inspect.signature(getattr(kind, name))), signature)
        for kind, signature in ((loads.Load, "(*pairs)"), (handlers.Handler, "(kinds, rows)"), (webs.Web, "(*handlers)"),
                                (desks.Desk, "(web, entries)"), (console.Console, "(web, entries)")):
            self.same(str(inspect.signature(kind)), signature)
        self.same(str(inspect.signature(desks.attempt)), "(desk, act)")


class Errors(Case):
    def test_the_first_one(self):
        for call, right, wrong in CALLS:
            for at, (name, value, error) in enumerate(wrong):
                # All that is looked at later may be wrong, too.
                later = {other: worth for other, worth, _ in wrong[at + 1:][::-1] if other != name}
                for many in range(len(later) + 1):
                    for others in itertools.combinations(later, many):
                        passed = {**right, name: value, **{other: later[other] for other in others}}
                        with self.assertRaises(error, msg=(call, passed)) as caught:
                            call(**passed)
                        self.assertIs(type(caught.exception), error)
                        if "value" in vars(caught.exception) and error is not errors.UnknownKind:
                            self.assertIs(caught.exception.value, value)

    def test_what_comes_at_the_end(self):
        wide = long_way(600, 1)
        for call, more in ((folding.come_to, {}), (folding.as_one, {}), (desks.Desk, {}), (console.Console, {}),
                           (certificates.certify_one, {}), (folding.way_to, {"rest": (0, 0)}),
                           (sums.greatest, {"terms": (("a", 1),)}), (sums.passing, {"terms": (("a", 1),), "bound": 0}),
                           (certificates.certify_greatest, {"terms": (("a", 1),)})):
            self.fails(errors.TooManyStates, {"limit": 600}, call, web=wide, entries=("a",), **more)
            for name, value, error in (("rest", 1, errors.InvalidRest), ("terms", 1, errors.InvalidTerms),
                                       ("bound", -1, errors.InvalidNumber)):
                if name in more:
                    with self.assertRaises(error):
                        call(**{"web": wide, "entries": ("a",), **more, name: value})

    def test_where_there_is_no_limit_on_rests(self):
        wide = Web(every(("a",), 600, "b"), every(("b",), 600, "x"))
        self.same(sums.worth(wide, ("a",), (("x", 1),), Load(("a", 360000))), 1)
        self.same(lasting.lasting_count(wide), 360000)
        self.same(sums.means(wide)[0], ("a", (("x", (1, 360000)),)))
        self.same(certificates.certify_idle(wide, Load(("b", 600)))[0][0], "idle")
        self.same([len(desks.Desk(wide, ("b",)).web), console.Console(wide, ("b",)).say("count")], [2, "360000"])
        self.same(len(alike.webs_alike(wide, wide, ("b",)) and folding.folded(wide, (1,))), 2)

    def test_ends_of_the_desk(self):
        desk = desks.Desk(long_way(600, 1), ("b",))
        # Its first handler is not come to: any other one may stand there, as large as it likes.
        for handler in (every(("a",), 600, "x"), every(("u", "v"), 599, "b"), dealer("a", ("b", "x")), copier("c", Load())):
            self.same(desk.exchange(0, handler), None)
        self.same([len(desk), desk.rest], [4, (0, 0)])


class Altered(Case):
    def test_nothing_that_is_passed(self):
        for call, right, wrong in CALLS:
            before = {name: shown(value) for name, value in right.items()}
            first = shown(call(**right))
            self.same({name: shown(value) for name, value in right.items()}, before)
            for name, value, error in wrong:
                with self.assertRaises(error):
                    call(**{**right, name: value})
            # The same is asked again, of things in the same state.
            self.same(shown(call(**right)), first)
            self.same({name: shown(value) for name, value in right.items()}, before)

    def test_rows_are_tuples(self):
        def is_row(value):
            if isinstance(value, (list, set, frozenset, dict)) or hasattr(value, "__next__"):
                return False
            return all(map(is_row, value)) if isinstance(value, tuple) else True

        for call, right, _ in CALLS:
            self.assertTrue(is_row(call(**right)))
        self.assertTrue(is_row(desks.Desk(WEB, ("a",)).log))
        self.assertTrue(is_row((WEB.handlers, WEB.kinds, WEB.outs, WEB.start, HANDLER.rows, MANY.pairs, MANY.names)))

    def test_a_desk_does_not_alter_its_webs(self):
        source = random.Random(351)
        web = sample_web()
        desk = desks.Desk(web, ("order",))
        for _ in range(30):
            desk.take(Load(("order", source.randint(1, 10 ** 45))))
            desk.fold((len(desk.web) - 1,))
        self.same([web, desk.first, str(web)], [sample_web(), sample_web(), str(sample_web())])
        self.assertIs(desk.first, web)


if __name__ == "__main__":
    unittest.main()
