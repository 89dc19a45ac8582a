"""Webs for the tests, and what points 8 to 11 say of them, written down once more in the plainest way."""

import itertools
import random

from everyload.errors import Endless
from everyload.handlers import Handler
from everyload.loads import Load
from everyload.webs import Web

PICKS = {
    "first": lambda source, kinds: min(kinds),
    "last": lambda source, kinds: max(kinds),
    "any": lambda source, kinds: source.choice(sorted(kinds)),
}


def load_of(counts):
    return Load(*[(name, count) for name, count in counts.items() if count > 0])


def homes(web):
    """For each kind, the place of its handler and that of the kind there."""
    return {kind: (at, column) for at, handler in enumerate(web.handlers) for column, kind in enumerate(handler.kinds)}


def one_by_one(web, load, rest, pick="any", seed=0, late=False, most=200000):
    """What comes of delivering messages one by one: rest, outs, delivered. With `late`, some come only on the way."""
    source = random.Random(seed)
    places = homes(web)
    states, counts = list(rest), {"out": {}, "taken": {}}
    waiting, coming = {}, dict(load.pairs)
    for _ in range(most):
        if coming and (not waiting or not late or source.random() < 0.3):
            kind = source.choice(sorted(coming))
            many = source.randint(1, coming[kind]) if late else coming[kind]
            waiting[kind] = waiting.get(kind, 0) + many
            coming = {name: count - (many if name == kind else 0) for name, count in coming.items()}
            coming = {name: count for name, count in coming.items() if count}
            continue
        if not waiting:
            return tuple(states), load_of(counts["out"]), load_of(counts["taken"])
        kind = PICKS[pick](source, waiting)
        waiting[kind] -= 1
        if not waiting[kind]:
            del waiting[kind]
        at, column = places[kind]
        states[at], sent = web.handlers[at].rows[states[at]][column]
        counts["taken"][kind] = counts["taken"].get(kind, 0) + 1
        for name, count in sent:
            into = waiting if name in places else counts["out"]
            into[name] = into.get(name, 0) + count
    raise AssertionError("this takes too long for a test")


def in_bulk(web, load, rest, most=200000):
    """The same, taking all that waits of a kind in one go; for loads that would take too long one by one."""
    places = homes(web)
    states, out, taken = list(rest), Load(), Load()
    waiting = load
    for _ in range(most):
        if not waiting:
            return tuple(states), out, taken
        kind = min(waiting.names, key=lambda name: (taken[name], name))
        at = places[kind][0]
        chosen = Load((kind, waiting[kind]))
        states[at], sent = web.handlers[at].after(chosen, state=states[at])
        waiting, taken = waiting - chosen, taken + chosen
        for name, count in sent.pairs:
            if name in places:
                waiting = waiting + Load((name, count))
            else:
                out = out + Load((name, count))
    raise AssertionError("this takes too long for a test")


def walk_of(source, kinds, names, size, density, most):
    """A way into a ring, on which each kind moves on by its weight, and what is sent on each piece of it."""
    tail, ring = source.choice((0, 0, source.randint(1, size))), source.randint(1, size)
    weights = [source.choice((0, 1, 1, 1, 2, 3)) for _ in kinds]
    sends = [{name: source.randint(1, most) for name in names if source.random() < density}
             for _ in range(tail + ring)]
    return tail, weights, sends


def moved(walk, place, steps):
    tail, _, sends = walk
    sent = {}
    for _ in range(steps):
        for name, count in sends[place].items():
            sent[name] = sent.get(name, 0) + count
        place = place + 1 if place + 1 < len(sends) else tail
    return place, sent


def rows_of(kinds, walks):
    """The rows of a handler that goes all of these walks side by side; None if it had more than 600 states."""
    start = tuple(0 for _ in walks)
    numbers, states, rows = {start: 0}, [start], []
    for state in states:
        row = []
        for at in range(len(kinds)):
            sent, behind = {}, []
            for walk, place in zip(walks, state):
                end, more = moved(walk, place, walk[1][at])
                behind.append(end)
                for name, count in more.items():
                    sent[name] = sent.get(name, 0) + count
            behind = tuple(behind)
            if behind not in numbers:
                numbers[behind] = len(states)
                states.append(behind)
            row.append((numbers[behind], tuple(sorted(sent.items()))))
        rows.append(row)
        if len(states) > 590:
            return None
    return rows


def shuffled(source, kinds, names, rows):
    """The handler with its states in any order behind state 0, and some to which nothing leads among them."""
    extra = source.randint(0, 2)
    many = len(rows) + extra
    rows = rows + [[(source.randrange(many), ((source.choice(names), 1),)) for _ in kinds] for _ in range(extra)]
    numbers = [0] + source.sample(range(1, many), many - 1)
    table = [None] * many
    for state, row in enumerate(rows):
        reached = state < many - extra
        table[numbers[state]] = tuple((numbers[follows] if reached else follows, pairs) for follows, pairs in row)
    return Handler(tuple(kinds), tuple(table))


def some_handler(source, kinds, names, size=4, density=0.2, most=2, walks=2):
    rows = None
    while rows is None:
        many = source.randint(1, walks)
        rows = rows_of(kinds, [walk_of(source, kinds, names, size, density, most) for _ in range(many)])
    return shuffled(source, kinds, names, rows)


def grouped(source, kinds, many):
    """The kinds in so many groups, in their order."""
    cuts = [0] + sorted(source.sample(range(1, len(kinds)), many - 1)) + [len(kinds)]
    return [kinds[one:other] for one, other in zip(cuts, cuts[1:])]


def some_handlers(source, handlers=5, kinds=8, **told):
    """Handlers that send to one another, to themselves and out."""
    many = source.randint(1, handlers)
    names = ["k" + str(at) for at in range(source.randint(many, kinds))]
    source.shuffle(names)
    return [some_handler(source, group, names + ["out", "x"], **told) for group in grouped(source, names, many)]


def some_web(source, **told):
    """A web of such handlers, in which all comes to an end."""
    while True:
        try:
            return Web(*some_handlers(source, **told))
        except Endless:
            pass


def some_rest(source, web):
    return tuple(source.choice(handler.reachable) for handler in web.handlers)


def some_load(source, kinds, most):
    return load_of({kind: source.randint(0, most) for kind in kinds if source.random() < 0.6})


def ring(kind, sends):
    """A handler of one kind that goes round, with the load, or a dict of it, that each of its states sends."""
    last = len(sends) - 1
    pairs = [sent.pairs if isinstance(sent, Load) else tuple(sorted(sent.items())) for sent in sends]
    return Handler((kind,), tuple(((at + 1 if at < last else 0, pairs[at]),) for at in range(len(sends))))


def once(kind, count, sent):
    """A ring of so many states of which the last one sends."""
    return ring(kind, [{}] * (count - 1) + [sent])


def loads_of_size(kinds, size):
    """All loads of this size, in the order of point 9."""
    counts = [row for row in itertools.product(range(size, -1, -1), repeat=len(kinds)) if sum(row) == size]
    for row in sorted(counts, reverse=True):
        yield load_of(dict(zip(kinds, row)))


def loads_up_to(kinds, size):
    for each in range(size + 1):
        yield from loads_of_size(kinds, each)


def ways(web, entries):
    """The rests that are come to with their ways: loads in their order, until those of one size lead to no new rest."""
    found = {}
    for size in itertools.count():
        new = False
        for load in loads_of_size(entries, size):
            rest = one_by_one(web, load, web.start)[0]
            if rest not in found:
                found[rest] = load
                new = True
        if not new:
            return found
