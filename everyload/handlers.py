"""Handlers: what takes messages, has a state and sends messages."""

from everyload.errors import Heeds, InvalidNumber, InvalidPairs, InvalidRows, InvalidText
from everyload.errors import NotAHandler, NotALoad, UnknownKind
from everyload.limits import MOST_KINDS, MOST_STATES
from everyload.loads import Load
from everyload.names import check_kinds, is_name, is_place, plain_name
from everyload.pairs import by_name
from everyload.tables import first_heeding, names_sent, plain_rows, reachable_states, read_table
from everyload.tables import repeated, table_text, wrong_row_at


class Handler:
    """Takes messages of some kinds, in any order. It never changes: its states are told as numbers."""

    def __init__(self, kinds, rows):
        check_kinds(kinds, MOST_KINDS)
        check_rows(rows, len(kinds))
        self._kinds = tuple([plain_name(kind) for kind in kinds])
        self._rows = plain_rows(rows)
        self._reachable = reachable_states(self._rows)
        self._reached = {state: True for state in self._reachable}
        self._sent = names_sent(self._rows, self._reachable)
        heeding = first_heeding(self._rows, len(kinds), self._reachable)
        if heeding is not None:
            state, one, other = heeding
            raise Heeds(state, self._kinds[one], self._kinds[other])

    @staticmethod
    def read(text):
        """The handler with this text."""
        table = read_table(text) if isinstance(text, str) else None
        if table is None:
            raise InvalidText(text)
        kinds, rows = table
        return Handler(kinds, rows)

    @property
    def kinds(self):
        return self._kinds

    @property
    def rows(self):
        return self._rows

    @property
    def sent(self):
        return self._sent

    @property
    def reachable(self):
        return self._reachable

    def step(self, state, kind):
        """The pair of the state that follows and the Load that is sent."""
        if not is_place(state, len(self._rows)):
            raise InvalidNumber(state)
        if not isinstance(kind, str) or kind not in self._kinds:
            raise UnknownKind(kind)
        follows, pairs = self._rows[state][self._kinds.index(kind)]
        return (follows, Load.of(pairs))

    def after(self, load, *, state=0):
        """The pair of the state behind the messages of the load and the Load that is sent meanwhile."""
        check_load(load, self._kinds)
        if not self.reaches(state):
            raise InvalidNumber(state)
        behind = int(state)
        counts = {}
        # Any order will do at reachable states: so all messages of a kind are taken in one go.
        for kind, count in load.pairs:
            place = self._kinds.index(kind)
            behind, taken = repeated(self._rows, place, behind, count)
            for at, times in taken.items():
                for name, each in self._rows[at][place][1]:
                    counts[name] = counts.get(name, 0) + each * times
        return (behind, Load.of(by_name(counts)))

    def reaches(self, value):
        """Whether this is the number of a reachable state."""
        return is_place(value, len(self._rows)) and value in self._reached

    def renamed(self, pairs):
        """The handler in which the names of the pairs (old name, new name) are exchanged."""
        own = own_names(self._kinds, self._rows)
        check_renaming(pairs, own)
        now = {name: name for name in own}
        for old, new in pairs:
            now[old] = new
        kinds = tuple([now[kind] for kind in self._kinds])
        return Handler(kinds, tuple([renamed_row(row, now) for row in self._rows]))

    def __len__(self):
        return len(self._rows)

    def __eq__(self, other):
        return isinstance(other, Handler) and self._kinds == other._kinds and self._rows == other._rows

    def __str__(self):
        return str(table_text(self._kinds, self._rows))

    def __repr__(self):
        return f"Handler({len(self._kinds)} kinds, {len(self._rows)} states)"


def check_handler(handler):
    if not isinstance(handler, Handler):
        raise NotAHandler(handler)


def check_rows(rows, kinds):
    """Raise InvalidRows if these are no rows of a handler with so many kinds."""
    if not isinstance(rows, tuple) or not 1 <= len(rows) <= MOST_STATES:
        raise InvalidRows(None)
    wrong = wrong_row_at(rows, kinds)
    if wrong is not None:
        raise InvalidRows(wrong)


def check_load(load, kinds):
    """Raise NotALoad or UnknownKind if this is no load of these kinds alone."""
    if not isinstance(load, Load):
        raise NotALoad(load)
    for name in load.names:
        if name not in kinds:
            raise UnknownKind(name)


def own_names(kinds, rows):
    """All names that are taken or sent in any step, with True for each."""
    sent = names_sent(rows, list(range(len(rows))))
    names = [*kinds, *sent]
    return {name: True for name in names}


def is_renaming(value):
    """Whether this is a pair (old name, new name)."""
    return isinstance(value, tuple) and len(value) == 2 and is_name(value[0]) and is_name(value[1])


def check_renaming(pairs, own):
    """Raise InvalidPairs if these pairs do not give different names to a handler's own ones."""
    if not isinstance(pairs, tuple):
        raise InvalidPairs(None)
    # A new name may stand for a name that a later pair takes away: so all pairs are looked at first.
    leaving = {pair[0]: True for pair in pairs if is_renaming(pair)}
    olds = {}
    news = {}
    for at, pair in enumerate(pairs):
        if not is_renaming(pair):
            raise InvalidPairs(at)
        old, new = pair
        if old not in own or old in olds or new in news:
            raise InvalidPairs(at)
        if new in own and new not in leaving:
            raise InvalidPairs(at)
        olds[old] = True
        news[new] = True


def renamed_row(row, now):
    return tuple([(state, by_name({now[name]: count for name, count in pairs})) for state, pairs in row])
