"""Sums of what goes in and out of webs."""

from everyload.ascents import far_counts
from everyload.errors import InvalidNumber
from everyload.folding import as_one
from everyload.handlers import check_load
from everyload.names import is_at_least
from everyload.rates import mean_rows
from everyload.slopes import Slope
from everyload.terms import check_terms, plain_terms, sum_of
from everyload.ways import check_entries, load_of
from everyload.webs import check_web

MOST_BOUND = 1000


def worth(web, entries, terms, load):
    """The worth of the sum for a load of the entries."""
    check_sum(web, entries, terms)
    check_load(load, entries)
    factors = dict(plain_terms(terms))
    return sum_of(factors, load.pairs) + sum_of(factors, web.run(load).outs.pairs)


def greatest(web, entries, terms):
    """The pair of the greatest worth for all loads of the entries and a load that has it; None if there is none."""
    check_sum(web, entries, terms)
    slope = Slope(as_one(web, entries), plain_terms(terms))
    if slope.is_endless():
        return None
    climb = slope.climb()
    climb.rise_to_top()
    most, mark = (0, 0)
    for state, told in climb.best.items():
        if told > most:
            most, mark = (told, climb.marks[state])
    return (most, load_of(entries, climb.counts_at(mark)))


def passing(web, entries, terms, bound):
    """A load of the least size whose worth is above the bound, None if there is none."""
    check_sum(web, entries, terms)
    if not is_at_least(bound, 0) or bound > MOST_BOUND:
        raise InvalidNumber(bound)
    slope = Slope(as_one(web, entries), plain_terms(terms))
    climb = slope.climb()
    # Where nothing goes on for ever, as many messages as there are states have shown all.
    most = 2 * len(slope.heights)
    size = 0
    while size < most and climb.rise():
        size += 1
        mark = climb.passing_mark(bound)
        if mark is not None:
            return load_of(entries, climb.counts_at(mark))
    counts = far_counts(slope, bound, most) if slope.is_endless() else None
    return None if counts is None else load_of(entries, counts)


def means(web):
    """For each kind a pair (kind, row), in which each out stands with its mean, in a pair (out, (over, under))."""
    check_web(web)
    rows = mean_rows(web)
    return tuple([(kind, tuple(list(zip(web.outs, row)))) for kind, row in zip(web.kinds, rows)])


def check_sum(web, entries, terms):
    """Raise the error that is due for what is no web, no entries of it or no terms of a sum over these."""
    check_web(web)
    check_entries(entries, web.kinds)
    check_terms(terms, entries, web.outs)
