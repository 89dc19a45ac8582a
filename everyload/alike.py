"""The first loads for which handlers, or webs, do not send the same."""

from everyload.errors import NotComparable
from everyload.folding import as_one
from everyload.handlers import check_handler
from everyload.ways import check_entries, load_of, with_one
from everyload.webs import check_web


def parting(one, other):
    """The first load, in the order of the kinds of the first, for which two handlers do not send the same; or None."""
    check_handler(one)
    check_handler(other)
    if sorted([str(kind) for kind in one.kinds]) != sorted([str(kind) for kind in other.kinds]):
        raise NotComparable()
    places = [other.kinds.index(kind) for kind in one.kinds]
    counts = parting_counts(one.rows, [[row[place] for place in places] for row in other.rows])
    return None if counts is None else load_of(one.kinds, counts)


def alike(one, other):
    """Whether two handlers send the same for every load."""
    return parting(one, other) is None


def web_parting(web, other, entries):
    """The first load of the entries for which the webs do not send the same out, None if there is none."""
    check_both(web, other, entries)
    return parting(as_one(web, entries), as_one(other, entries))


def webs_alike(web, other, entries):
    """Whether two webs send the same out for every load of the entries."""
    return web_parting(web, other, entries) is None


def check_both(web, other, entries):
    """Raise the error that is due for what is no web, twice, or no entries of both."""
    check_web(web)
    check_web(other)
    check_entries(entries, [kind for kind in web.kinds if kind in other.kinds])


def parting_counts(rows, others):
    """The counts of the first load for which two tables with the same kinds do not send the same, None if none.

    Pairs of states are gone through in the order of the loads that lead to them. A pair is left out if earlier pairs
    already join its states, by way of others: what parts it parts one of those, and behind an earlier load.
    """
    many = len(rows)
    leaders = list(range(many + len(others)))
    leaders[many] = 0
    row = [(0, 0, tuple([0 for _ in rows[0]]), 0)]
    step = 0
    while step < len(row):
        state, across, counts, last = row[step]
        for at in range(last, len(counts)):
            follows, pairs = rows[state][at]
            beyond, sent = others[across][at]
            more = with_one(counts, at)
            if pairs != sent:
                return more
            if unite(leaders, follows, many + beyond):
                row.append((follows, beyond, more, at))
        step += 1
    return None


def unite(leaders, one, other):
    """Join the groups of both; whether they were two."""
    first, second = leader(leaders, one), leader(leaders, other)
    leaders[second] = first
    return first != second


def leader(leaders, member):
    """The one of a group that leads itself; the way to it is made shorter."""
    at = member
    while leaders[at] != at:
        leaders[at] = leaders[leaders[at]]
        at = leaders[at]
    return at
