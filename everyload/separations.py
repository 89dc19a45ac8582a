"""Loads that tell the states of a handler apart."""

from everyload.ways import with_one


def separating_counts(table):
    """For each two states, the lesser one first, the counts of a load for which not the same is sent from both.

    All states of the table have to be such that there is one.
    """
    kinds = len(table[0])
    many = len(table)
    none = tuple([0 for _ in range(kinds)])
    found = {}
    left = [(one, other) for other in range(many) for one in range(other)]
    while len(left) > 0:
        # What is told apart by one message, or by one ahead of a load that has been found for those behind it.
        new = {}
        for pair in left:
            counts = counts_for(table, pair, found, none)
            if counts is not None:
                new[pair] = counts
        for pair in new:
            found[pair] = new[pair]
        left = [pair for pair in left if pair not in found]
    return found


def counts_for(table, pair, found, none):
    """The counts of a load that tells a pair of states apart, as far as they follow from those found; None."""
    one, other = pair
    for at in range(len(none)):
        if table[one][at][1] != table[other][at][1]:
            return with_one(none, at)
    for at in range(len(none)):
        behind = ascending(table[one][at][0], table[other][at][0])
        if behind in found:
            return with_one(found[behind], at)
    return None


def ascending(one, other):
    return (one, other) if one < other else (other, one)
