"""What messages of each kind of a web send out in the mean."""

from math import gcd

from everyload.loads import Load
from everyload.matrices import inverse


def mean_rows(web):
    """For each kind of the web, the means of its outs, in their order, as pairs (over, under)."""
    # One message is so many rounds of each kind together, each of the rounds times the number.
    number, rounds = inverse(web.plan.drains)
    sent = [sent_in_round(web, at) for at in range(len(web.kinds))]
    rows = []
    for times in rounds:
        sums = {}
        for many, pairs in zip(times, sent):
            for name, count in pairs:
                sums[name] = sums.get(name, 0) + many * count
        rows.append([reduced(sums.get(out, 0), number) for out in web.outs])
    return rows


def sent_in_round(web, at):
    """The pairs of what a round of the kind at this place sends."""
    ring = web.plan.tracks[at].rings[0]
    handler = web.handlers[web.plan.homes[at]]
    _, sent = handler.after(Load((web.kinds[at], len(ring))), state=ring[0])
    return sent.pairs


def reduced(over, under):
    shared = gcd(over, under)
    return (over // shared, under // shared)
