"""One handler for a web, for some handlers of a web, and for a handler with more states than it needs."""

from everyload.errors import InvalidIndexes, InvalidRest, TooManyStates
from everyload.handlers import Handler, check_handler
from everyload.limits import MOST_STATES
from everyload.loads import Load
from everyload.names import is_place
from everyload.ways import check_entries, first_loads, load_of
from everyload.webs import Web, check_web


class Singles:
    """What single messages of the entries do at the rests of a web, each worked out when it is first asked for."""

    def __init__(self, web, entries):
        self._web = web
        self._entries = entries
        self._loads = [Load((entry, 1)) for entry in entries]
        self._outcomes = {}

    def outcome(self, rest, at):
        key = (rest, at)
        if key not in self._outcomes:
            self._outcomes[key] = self._web.run(self._loads[at], rest=rest)
        return self._outcomes[key]

    def behind(self, rest, at):
        return self.outcome(rest, at).rest

    def rests(self):
        """A dict of the rests that are come to, in their order, with the counts of their ways."""
        found = first_loads(self._web.start, len(self._loads), self.behind, MOST_STATES)
        if found is None:
            raise TooManyStates(MOST_STATES)
        return found

    def handler(self):
        """The handler that takes the entries and sends what goes out; its states are the rests that are come to."""
        numbers = {rest: number for number, rest in enumerate(self.rests())}
        rows = []
        for rest in numbers:
            outcomes = [self.outcome(rest, at) for at in range(len(self._loads))]
            rows.append(tuple([(numbers[outcome.rest], outcome.outs.pairs) for outcome in outcomes]))
        return Handler(self._entries, tuple(rows))


def come_to(web, entries):
    """The rests that are come to, in their order."""
    check_web(web)
    check_entries(entries, web.kinds)
    return tuple(list(Singles(web, entries).rests()))


def way_to(web, entries, rest):
    """The first load of the entries that leads to the rest, None if none does."""
    check_web(web)
    check_entries(entries, web.kinds)
    if not web.is_rest(rest):
        raise InvalidRest(rest)
    ways = Singles(web, entries).rests()
    states = web.states_of(rest)
    return load_of(entries, ways[states]) if states in ways else None


def as_one(web, entries):
    """The handler that takes the entries and sends what goes out of the web; its states are the rests come to."""
    check_web(web)
    check_entries(entries, web.kinds)
    return Singles(web, entries).handler()


def least(handler):
    """The handler with the fewest states that is alike, its states in the order of their first loads."""
    check_handler(handler)
    rows = handler.rows
    classes = classes_of(rows, handler.reachable)
    samples = {number: state for state, number in classes.items()}
    found = first_loads(classes[0], len(handler.kinds), lambda number, at: classes[rows[samples[number]][at][0]], None)
    numbers = {number: at for at, number in enumerate(found)}
    new = []
    for number in found:
        row = rows[samples[number]]
        new.append(tuple([(numbers[classes[follows]], pairs) for follows, pairs in row]))
    return Handler(handler.kinds, tuple(new))


def folded(web, places):
    """The web in which one handler at the first of these places does the work of all that stand there."""
    check_web(web)
    check_places(places, len(web))
    chosen = [web.handlers[place] for place in places]
    inner = Web(*chosen)
    one = least(as_one(inner, inner.kinds))
    handlers = []
    for place, handler in enumerate(web.handlers):
        if place == places[0]:
            handlers.append(one)
        elif place not in places:
            handlers.append(handler)
    return Web(*handlers)


def check_places(places, many):
    """Raise InvalidIndexes if this is no ascending tuple of one or more of so many places."""
    if not isinstance(places, tuple) or len(places) == 0:
        raise InvalidIndexes(None)
    least_place = 0
    for at, place in enumerate(places):
        if not is_place(place, many) or place < least_place:
            raise InvalidIndexes(at)
        least_place = place + 1


def classes_of(rows, states):
    """A number for each of the states, equal ones for those from which the same is sent for every load."""
    classes = numbered({state: tuple([pairs for _, pairs in rows[state]]) for state in states})
    many = 0
    while many < len(set(list(classes.values()))):
        many = len(set(list(classes.values())))
        # What is alike stays so only if what follows is alike, too.
        told = {state: (classes[state], *[classes[follows] for follows, _ in rows[state]]) for state in states}
        classes = numbered(told)
    return classes


def numbered(told):
    """A number for each key of a dict, equal ones for keys of which the same is told."""
    numbers = {}
    for key in told.values():
        if key not in numbers:
            numbers[key] = len(numbers)
    return {at: numbers[key] for at, key in told.items()}
