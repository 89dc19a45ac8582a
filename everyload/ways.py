"""What loads lead to, in the order of loads (point 9 of the document), and what entries are."""

from everyload.errors import InvalidEntries
from everyload.loads import Load
from everyload.names import wrong_choice_at
from everyload.pairs import by_name


def first_loads(start, kinds, lead, most):
    """A dict of all that is led to from the start, with the counts of the first load that leads there, in their order.

    `lead(key, at)` tells to what a message of the kind at a place leads; None if there are more than `most` of them.
    """
    row = [start]
    counts = {start: tuple([0 for _ in range(kinds)])}
    lasts = {start: 0}
    step = 0
    while step < len(row):
        key = row[step]
        # What is left of a first load without its last message is one, too: nothing needs to be added ahead of it.
        last = lasts[key]
        for at in range(last, kinds):
            behind = lead(key, at)
            if behind not in counts:
                if len(row) == most:
                    return None
                row.append(behind)
                counts[behind] = with_one(counts[key], at)
                lasts[behind] = at
        step += 1
    return counts


def with_one(counts, at):
    """The counts with one more at this place."""
    return (*counts[:at], counts[at] + 1, *counts[at + 1:])


def load_of(kinds, counts):
    return Load.of(by_name({kind: count for kind, count in zip(kinds, counts) if count > 0}))


def check_entries(entries, kinds):
    """Raise InvalidEntries if this is no tuple of one or more of the kinds, different ones."""
    if not isinstance(entries, tuple) or len(entries) == 0:
        raise InvalidEntries(None)
    wrong = wrong_choice_at(entries, kinds)
    if wrong is not None:
        raise InvalidEntries(wrong)
