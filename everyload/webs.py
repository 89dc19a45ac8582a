"""Webs: handlers that send to one another, and running them."""

from everyload.errors import Endless, InvalidChoice, InvalidHandlers, InvalidRest, InvalidText
from everyload.errors import NotAWeb, TooManyKinds, UnknownKind
from everyload.figures import figures_of
from everyload.handlers import Handler, check_load
from everyload.limits import MOST_HANDLERS, MOST_KINDS
from everyload.loads import Load
from everyload.names import wrong_name_at
from everyload.pairs import by_name
from everyload.plans import Plan
from everyload.running import run_out
from everyload.tables import read_table


class Web:
    """Handlers that send to one another, in which all work comes to an end. It never changes."""

    def __init__(self, *handlers):
        check_handlers(handlers)
        kinds = [kind for handler in handlers for kind in handler.kinds]
        if len(kinds) > MOST_KINDS:
            raise TooManyKinds(MOST_KINDS)
        sent = {name: True for handler in handlers for name in handler.sent}
        self._handlers = handlers
        self._kinds = tuple(kinds)
        self._outs = tuple(sorted([str(name) for name in sent if name not in kinds]))
        self._start = tuple([0 for _ in handlers])
        self.plan = Plan(handlers)
        if not self.plan.comes_to_an_end():
            raise Endless()

    @staticmethod
    def read(text):
        """The web with this text."""
        tables = read_tables(text) if isinstance(text, str) else None
        if tables is None:
            raise InvalidText(text)
        handlers = [Handler(kinds, rows) for kinds, rows in tables]
        return Web(*handlers)

    @property
    def handlers(self):
        return self._handlers

    @property
    def kinds(self):
        return self._kinds

    @property
    def outs(self):
        return self._outs

    @property
    def start(self):
        return self._start

    def run(self, load, *, rest=None):
        """The Outcome of running the load from the rest, from the start if it is None."""
        check_load(load, self._kinds)
        states = self.states_of(rest)
        counts = dict(load.pairs)
        ends, taken = run_out(self.plan, states, [counts.get(kind, 0) for kind in self._kinds])
        delivered = {kind: count for kind, count in zip(self._kinds, taken) if count > 0}
        outs = self.sent_out(states, delivered)
        return Outcome(tuple(ends), Load.of(by_name(outs)), Load.of(by_name(delivered)))

    def walk(self, load, choose, *, rest=None):
        """Run the load as `choose` tells: yield behind each message its kind, the states and what waits."""
        check_load(load, self._kinds)
        states = list(self.states_of(rest))
        waiting = dict(load.pairs)
        while len(waiting) > 0:
            kinds = tuple(sorted([str(kind) for kind in waiting]))
            kind = chosen(choose(kinds), kinds)
            place = self.place(kind)
            states[place], sent = self._handlers[place].step(states[place], kind)
            waiting[kind] = waiting[kind] - 1
            for name, count in sent.pairs:
                if name in self._kinds:
                    waiting[name] = waiting.get(name, 0) + count
            waiting = {name: count for name, count in waiting.items() if count > 0}
            yield (kind, tuple(states), Load.of(by_name(waiting)))

    def joined(self, other):
        """The web of the handlers of both."""
        if not isinstance(other, Web):
            raise NotAWeb(other)
        handlers = [*self._handlers, *other.handlers]
        return Web(*handlers)

    def place(self, kind):
        """The place of the handler that takes the kind."""
        if not isinstance(kind, str) or kind not in self._kinds:
            raise UnknownKind(kind)
        return self.plan.homes[self._kinds.index(kind)]

    def states_of(self, rest):
        """The states of a rest, the start for None; InvalidRest for anything else."""
        if rest is None:
            return self._start
        if not self.is_rest(rest):
            raise InvalidRest(rest)
        return tuple([int(state) for state in rest])

    def is_rest(self, value):
        if not isinstance(value, tuple) or len(value) != len(self._handlers):
            return False
        return all([handler.reaches(state) for state, handler in zip(value, self._handlers)])

    def sent_out(self, states, delivered):
        """A dict of what leaves when so many messages of the kinds are taken from these states on."""
        counts = {}
        for handler, state in zip(self._handlers, states):
            own = {kind: delivered[kind] for kind in handler.kinds if kind in delivered}
            _, sent = handler.after(Load.of(by_name(own)), state=state)
            for name, count in sent.pairs:
                if name not in self._kinds:
                    counts[name] = counts.get(name, 0) + count
        return counts

    def __len__(self):
        return len(self._handlers)

    def __eq__(self, other):
        return isinstance(other, Web) and self._handlers == other._handlers

    def __str__(self):
        return "\nand\n".join([str(handler) for handler in self._handlers])

    def __repr__(self):
        return f"Web({len(self._handlers)} handlers, {len(self._kinds)} kinds)"


class Outcome:
    """What running a load comes to: a rest, what went out and what was delivered."""

    def __init__(self, rest, outs, delivered):
        # No property: an error has an attribute of this name, and a name is the one or the other.
        self.rest = rest
        self._outs = outs
        self._delivered = delivered

    @property
    def outs(self):
        return self._outs

    @property
    def delivered(self):
        return self._delivered

    def __eq__(self, other):
        if not isinstance(other, Outcome) or self.rest != other.rest:
            return False
        return self._outs == other._outs and self._delivered == other._delivered

    def __repr__(self):
        return f"Outcome({figures_of(self._delivered.size)} delivered)"


def check_web(web):
    if not isinstance(web, Web):
        raise NotAWeb(web)


def check_handlers(handlers):
    """Raise InvalidHandlers if these are too few or too many, or no handlers with kinds of their own."""
    if not 1 <= len(handlers) <= MOST_HANDLERS:
        raise InvalidHandlers(None)
    taken = {}
    for at, handler in enumerate(handlers):
        if not isinstance(handler, Handler) or any([kind in taken for kind in handler.kinds]):
            raise InvalidHandlers(at)
        for kind in handler.kinds:
            taken[kind] = True


def read_tables(text):
    """The tables of the handlers with this text; None if there are none, or too many, or two take the same kind."""
    tables = [read_table(part) for part in text.split("\nand\n")]
    if len(tables) > MOST_HANDLERS or not all([table is not None for table in tables]):
        return None
    kinds = [kind for names, _ in tables for kind in names]
    return tables if wrong_name_at(kinds) is None else None


def chosen(value, kinds):
    """The kind that was chosen; InvalidChoice for anything else."""
    if not isinstance(value, str) or value not in kinds:
        raise InvalidChoice(value)
    return kinds[kinds.index(value)]
