"""Handlers for the tests, and what point 7 says of them, written down once more in the plainest way."""

import itertools


def step_of(rows, kinds, state, kind):
    return rows[state][kinds.index(kind)]


def deliver(rows, kinds, messages, state=0):
    """The state behind messages taken one by one, and a dict of what is sent."""
    sent = {}
    for kind in messages:
        state, pairs = step_of(rows, kinds, state, kind)
        for name, count in pairs:
            sent[name] = sent.get(name, 0) + count
    return state, sent


def reached(rows):
    found = {0}
    while True:
        more = found | {step[0] for state in found for step in rows[state]}
        if more == found:
            return tuple(sorted(found))
        found = more


def heeding(kinds, rows):
    """The state and the kinds for which a table heeds, as an error tells them, or None."""
    for state in reached(rows):
        for one, other in itertools.combinations(kinds, 2):
            if deliver(rows, kinds, (one, other), state) != deliver(rows, kinds, (other, one), state):
                return {"state": state, "one": one, "other": other}
    return None


def all_tables(kinds, states, sends):
    """All rows of handlers with so many states whose steps send one of these tuples of pairs."""
    steps = list(itertools.product(range(states), sends))
    for flat in itertools.product(steps, repeat=kinds * states):
        yield tuple(flat[at * kinds:(at + 1) * kinds] for at in range(states))


def meter(kinds, weights, round_length, out="out", extra=()):
    """A meter with a carry: each kind moves it on by its weight, and each full round sends an `out`.

    `extra` has, for each kind, pairs that each of its messages sends besides.
    """
    rows = []
    for state in range(round_length):
        row = []
        for at, weight in enumerate(weights):
            carry, follows = divmod(state + weight, round_length)
            sent = dict(extra[at]) if extra else {}
            if carry:
                sent[out] = sent.get(out, 0) + carry
            row.append((follows, tuple(sorted(sent.items()))))
        rows.append(tuple(row))
    return kinds, tuple(rows)


def tail(length, ring):
    """One kind `a`: a way of some states into a ring, each state sends another name or number of names."""
    states = length + ring
    rows = []
    for state in range(states):
        follows = state + 1 if state + 1 < states else length
        sent = {"x": state + 1, "s" + str(state): 1}
        rows.append(((follows, tuple(sorted(sent.items()))),))
    return ("a",), tuple(rows)
