"""Tuples of pairs (name, count), ascending by names: what loads and steps are made of."""

from everyload.figures import figures_of, read_figures
from everyload.names import is_at_least, is_name, plain_name


def is_pair(value):
    if not isinstance(value, tuple) or len(value) != 2:
        return False
    return is_name(value[0]) and is_at_least(value[1], 1)


def wrong_pair_at(pairs):
    """The index of the first one that is no pair or has the name of one ahead, None if there is none."""
    seen = {}
    for at, pair in enumerate(pairs):
        if not is_pair(pair) or pair[0] in seen:
            return at
        seen[pair[0]] = True
    return None


def are_ascending(pairs):
    """Whether these are pairs, and their names ascend."""
    last = ""
    for pair in pairs:
        if not is_pair(pair) or pair[0] <= last:
            return False
        last = pair[0]
    return True


def by_name(counts):
    """The pairs of a dict of names and counts."""
    names = sorted([str(name) for name in counts])
    return tuple([(name, counts[name]) for name in names])


def plain_pairs(pairs):
    """Valid pairs, by name, of nothing but Python's own tuples, strings and ints."""
    return by_name({plain_name(name): int(count) for name, count in pairs})


def added(pairs, more):
    counts = dict(pairs)
    for name, count in more:
        counts[name] = counts.get(name, 0) + count
    return by_name(counts)


def first_lacking(pairs, counts):
    """The first name of the pairs of which the dict has fewer, None if there is none."""
    for name, count in pairs:
        if counts.get(name, 0) < count:
            return name
    return None


def taken_away(pairs, counts):
    """The pairs without the counts of a dict, none of which is greater."""
    left = [(name, count - counts.get(name, 0)) for name, count in pairs]
    return tuple([(name, count) for name, count in left if count > 0])


def greater_of_both(pairs, more):
    counts = dict(pairs)
    for name, count in more:
        if counts.get(name, 0) < count:
            counts[name] = count
    return by_name(counts)


def lesser_of_both(pairs, counts):
    """The pairs of the names that the dict has too, with the lesser counts."""
    both = [(name, count) for name, count in pairs if name in counts]
    return tuple([(name, min(int(count), int(counts[name]))) for name, count in both])


def multiplied(pairs, factor):
    if factor == 0:
        return ()
    return tuple([(name, count * factor) for name, count in pairs])


def pairs_text(pairs):
    return ", ".join([f"{figures_of(count)} {name}" for name, count in pairs])


def read_pairs(text):
    """The pairs with this text, None if there are none."""
    if text == "":
        return ()
    pairs = tuple([read_pair(part) for part in text.split(", ")])
    return pairs if are_ascending(pairs) else None


def read_pair(text):
    """A pair, or what `is_pair` refuses."""
    count, _, name = text.partition(" ")
    return (name, read_figures(count))
