"""Claims that are true, with papers that the checker accepts."""

from everyload.alike import check_both, parting
from everyload.closures import all_behind
from everyload.errors import TooManyStates
from everyload.folding import Singles, least
from everyload.halves import Halves
from everyload.handlers import check_load
from everyload.lasting import idle, idle_load, some_lasting
from everyload.ledgers import rows_for
from everyload.meddling import meddling, places_of
from everyload.names import plain_name
from everyload.separations import separating_counts
from everyload.slopes import Slope
from everyload.sums import check_sum
from everyload.terms import plain_terms
from everyload.ways import check_entries, first_loads, load_of
from everyload.webs import check_web

# The tests of a claim "fewest" go by pairs of states.
MOST_TESTED = 60


def certify_one(web, entries):
    """That the least handler does the same as the web for all loads of the entries."""
    check_web(web)
    check_entries(entries, web.kinds)
    singles = Singles(web, entries)
    whole = singles.handler()
    small = least(whole)
    rests = list(singles.rests())
    claim = ("one", str(web), plain_names(entries), str(small))
    return (claim, tuple([(rests[number], state) for number, state in pairs_behind(whole, small)]))


def certify_alike(web, other, entries):
    """Whether two webs are alike for the entries."""
    check_both(web, other, entries)
    singles, others = Singles(web, entries), Singles(other, entries)
    one, second = singles.handler(), others.handler()
    load = parting(one, second)
    told = (str(web), str(other), plain_names(entries))
    if load is not None:
        return (("unlike", *told), load.pairs)
    rests, beyond = list(singles.rests()), list(others.rests())
    return (("alike", *told), tuple([(rests[at], beyond[to]) for at, to in pairs_behind(one, second)]))


def certify_greatest(web, entries, terms):
    """The number above which no worth of the sum is, or that there is none."""
    check_sum(web, entries, terms)
    singles = Singles(web, entries)
    slope = Slope(singles.handler(), plain_terms(terms))
    told = (str(web), plain_names(entries), plain_terms(terms))
    if slope.is_endless():
        return (("without end", *told), rising_loads(slope, entries))
    climb = slope.climb()
    climb.rise_to_top()
    most = 0
    for height in climb.best.values():
        most = max(most, int(height))
    paper = tuple([(rest, climb.best[number]) for number, rest in enumerate(singles.rests())])
    return (("never above", *told, most), paper)


def certify_run(web, load, *, rest=None):
    """What running the load from the rest, from the start if it is None, comes to."""
    check_web(web)
    outcome = web.run(load, rest=rest)
    first = web.states_of(rest)
    claim = ("run", str(web), first, load.pairs, outcome.rest, outcome.outs.pairs)
    return (claim, rows_for(web, first, load.pairs))


def certify_idle(web, load):
    """Whether the load leads all lasting rests to themselves."""
    check_web(web)
    check_load(load, web.kinds)
    word = "idle" if idle(web, load) else "not idle"
    rest = some_lasting(web)
    paper = (rest, rows_for(web, rest, idle_load(web).pairs), rows_for(web, rest, load.pairs))
    return ((word, str(web), load.pairs), paper)


def certify_apart(handler, kinds):
    """Whether these kinds of the handler and the others do not meddle."""
    load = meddling(handler, kinds)
    told = (str(handler), plain_names(kinds))
    if load is not None:
        return (("meddle", *told), load.pairs)
    halves = Halves(handler, places_of(handler, kinds))
    triples = []
    for one, row in zip(halves.one.states, halves.joint):
        for other, both in zip(halves.other.states, row):
            triples.append((both, one, other))
    return (("apart", *told), tuple(triples))


def certify_fewest(handler):
    """That no handler with fewer states than the least one is alike."""
    small = least(handler)
    if len(small) > MOST_TESTED:
        raise TooManyStates(MOST_TESTED)
    table = small.rows
    ways = first_loads(0, len(small.kinds), lambda state, at: table[state][at][0], None)
    tests = separating_counts(table)
    both = [(one, other) for other in range(len(small)) for one in range(other)]
    paper = (loads_told(small.kinds, list(ways.values())), loads_told(small.kinds, [tests[pair] for pair in both]))
    return (("fewest", str(small)), paper)


def loads_told(kinds, rows):
    """The pairs of loads with these counts."""
    return tuple([load_of(kinds, counts).pairs for counts in rows])


def plain_names(names):
    """Names, in nothing but Python's own tuple of strings, as the checker takes them."""
    return tuple([plain_name(name) for name in names])


def pairs_behind(one, other):
    """A list of the pairs of states to which the same loads lead in two handlers with the same kinds in one order."""
    table, second = one.rows, other.rows
    places = list(range(len(one.kinds)))
    return all_behind((0, 0), lambda pair: [(table[pair[0]][at][0], second[pair[1]][at][0]) for at in places])


def rising_loads(slope, entries):
    """The pairs of a load that leads to some state, and of one that leads back to it with a worth above 0."""
    rising = [at for at, mean in enumerate(slope.means) if mean > 0]
    track = slope.tracks[rising[0]]
    return loads_told((entries[rising[0]],), [(track.depths[0],), (len(track.rings[0]),)])
