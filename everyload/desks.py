"""Desks: running services whose handlers may be exchanged for others that do the same."""

from everyload.alike import parting
from everyload.errors import Busy, InvalidDeeds, InvalidNumber, NothingToUndo, Refused, UnknownKind
from everyload.folding import as_one, folded
from everyload.handlers import check_handler, check_load
from everyload.loads import Load
from everyload.names import is_place
from everyload.webs import Web

# The words of deeds, and how many elements such a deed has.
DEEDS = {"take": 2, "exchange": 3, "fold": 2}


class Desk:
    """A web at work. What it has come to stands in a Moment; each deed puts another one in its place."""

    def __init__(self, web, entries):
        # All webs of the desk are alike to the first one: what parts a new one from it parts it from each of them.
        self._one = as_one(web, entries)
        self._first = web
        self._entries = entries
        self._busy = False
        self._now = Moment(web, web.start, Load(), Load(), None, None)
        # No property: an error has an attribute of this name, and a name is the one or the other.
        self.rest = web.start

    @property
    def web(self):
        return self._now.service

    @property
    def first(self):
        return self._first

    @property
    def entries(self):
        return self._entries

    @property
    def taken(self):
        return self._now.came

    @property
    def sent(self):
        return self._now.went

    @property
    def log(self):
        deeds = []
        moment = self._now
        while moment.before is not None:
            deeds.append(moment.deed)
            moment = moment.before
        return tuple(deeds[::-1])

    @property
    def busy(self):
        return self._busy

    def take(self, load):
        """Run a load of the entries; returns the Load of what goes out."""
        self.check_idle()
        return self.do_take(("take", load))

    def __call__(self, load):
        return self.take(load)

    def exchange(self, place, handler):
        """Put a handler into the place of one of the web's, if no load of the entries can notice it."""
        self.check_idle()
        self.do_exchange(("exchange", place, handler))

    def fold(self, places):
        """Put one handler into the place of those at these places."""
        self.check_idle()
        self.do_fold(("fold", places))

    def do_all(self, *deeds, watch=None):
        """Do all of these deeds, one behind the other, or none; `watch` is called behind each of them."""
        self.check_idle()
        check_deeds(deeds)
        kept = self._now
        self._busy = True
        try:
            for at, deed in enumerate(deeds):
                self.do_one(deed)
                if watch is not None:
                    watch(self, at)
            kept = self._now
        finally:
            self._busy = False
            self._now = kept
            self.rest = kept.rest

    def undo(self):
        """Take back the last deed."""
        self.check_idle()
        if self._now.before is None:
            raise NothingToUndo()
        self.be_at(self._now.before)

    def trial(self):
        """What stands in a `with`: it hands out the desk, which is as before when the block ends."""
        self.check_idle()
        return Trial(self)

    def __len__(self):
        return len(self.log)

    def __repr__(self):
        return f"Desk({len(self.log)} deeds)"

    def check_idle(self):
        if self._busy:
            raise Busy()

    def be_at(self, moment):
        self._now = moment
        self.rest = moment.rest

    def do_one(self, deed):
        if deed[0] == "take":
            self.do_take(deed)
        elif deed[0] == "exchange":
            self.do_exchange(deed)
        else:
            self.do_fold(deed)

    def do_take(self, deed):
        load = deed[1]
        check_load(load, self._entries)
        now = self._now
        outcome = now.service.run(load, rest=now.rest)
        came, went = now.came + load, now.went + outcome.outs
        self.be_at(Moment(now.service, outcome.rest, came, went, deed, now))
        return outcome.outs

    def do_exchange(self, deed):
        _, place, handler = deed
        handlers = self._now.service.handlers
        if not is_place(place, len(handlers)):
            raise InvalidNumber(place)
        check_handler(handler)
        changed = [*handlers[:place], handler, *handlers[place + 1:]]
        web = Web(*changed)
        for entry in self._entries:
            if entry not in web.kinds:
                raise UnknownKind(entry)
        load = parting(self._one, as_one(web, self._entries))
        if load is not None:
            raise Refused(load)
        self.go_on_with(web, deed)

    def do_fold(self, deed):
        self.go_on_with(folded(self._now.service, deed[1]), deed)

    def go_on_with(self, web, deed):
        """Let a web that is alike go on, as if it had been there from the start."""
        now = self._now
        rest = web.run(now.came).rest
        self.be_at(Moment(web, rest, now.came, now.went, deed, now))


class Moment:
    """What a desk has come to: a web, its rest, all that came and went so far, the last deed, the Moment before it."""

    def __init__(self, service, rest, came, went, deed, before):
        self.service = service
        self.rest = rest
        self.came = came
        self.went = went
        self.deed = deed
        self.before = before


class Trial:
    """A block in which all may be tried out with a desk. It may be entered again, also while it goes on."""

    def __init__(self, desk):
        self.desk = desk
        self.held = None

    def __enter__(self):
        self.held = Held(self.desk._now, self.desk.rest, self.held)
        return self.desk

    def __exit__(self, kind, value, trace):
        desk = self.desk
        desk._now = self.held.moment
        desk.rest = self.held.rest
        self.held = self.held.outer


class Held:
    """The Moment at which a trial was entered, its rest, and the Held of the time that it was entered before that."""

    def __init__(self, moment, rest, outer):
        self.moment = moment
        self.rest = rest
        self.outer = outer


def attempt(desk, act):
    """What `act` returns for the desk, which is then as before."""
    with desk.trial() as same:
        return act(same)


def check_deeds(deeds):
    """Raise InvalidDeeds if one of these is no tuple with the word of a deed and as many elements."""
    for at, deed in enumerate(deeds):
        if not is_deed(deed):
            raise InvalidDeeds(at)


def is_deed(value):
    if not isinstance(value, tuple) or len(value) == 0 or not isinstance(value[0], str):
        return False
    return value[0] in DEEDS and len(value) == DEEDS[value[0]]
