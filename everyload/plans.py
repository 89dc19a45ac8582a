"""Webs as running sees them: kinds and handlers are told by their places, and names that leave are left out."""

from math import lcm

from everyload.closures import all_behind
from everyload.matrices import inverse
from everyload.tracks import Track


class Plan:
    """What messages of each kind do.

    For the kind at a place: `homes` has the place of its handler; `follows` and `sends`, for each state, the state
    that follows and the pairs (place of a kind, count) that are sent; `tracks` tells where many messages lead;
    `lengths` has the number of states on the ring behind state 0, `drains` what a round of it takes of each kind,
    less what it sends.

    So a round of a kind sends its length less its drain, and this from all reachable states: what leads from one of
    them to another and what goes round may be taken in either order.
    """

    def __init__(self, handlers):
        kinds = [kind for handler in handlers for kind in handler.kinds]
        places = {kind: at for at, kind in enumerate(kinds)}
        self.homes = [home for home, handler in enumerate(handlers) for _ in handler.kinds]
        columns = [column for handler in handlers for column in columns_of(handler.rows, places)]
        self.follows = [[state for state, _ in column] for column in columns]
        self.sends = [[inside for _, inside in column] for column in columns]
        self.tracks = [Track(follows) for follows in self.follows]
        self.lengths = [len(track.rings[0]) for track in self.tracks]
        self.drains = [drain(self, at) for at in range(len(kinds))]
        self.parts = [Part(self, home) for home in range(len(handlers))]
        sent = [sent_by(self, at) for at in range(len(kinds))]
        self.groups = groups_of([all_behind(at, lambda kind: sent[kind]) for at in range(len(kinds))])
        # The Leaps of each group, made as soon as some run is long enough to need them.
        self.leaps = [None for _ in self.groups]
        # Its Effects (see everyload.effects), made when they are first asked for.
        self.effects = None

    def comes_to_an_end(self):
        """Whether running each load from each rest does.

        If some rounds together send no less of any kind than they take, a load of what they take runs for ever.
        If none do, there are fewer and fewer messages in the long run. With no number above 0 beside the diagonal
        of the drains, there are none exactly if all leading minors are above 0, and then there is an inverse.
        """
        return inverse(self.drains) is not None


class Part:
    """What one handler sends in all, whichever way it comes from one state to another.

    `own` has the places of its kinds. What messages of these send is the sum of their `rates` and of the heights of
    the state behind them, less those of the state ahead of them, all of it divided by `scale`.
    """

    def __init__(self, plan, home):
        self.own = [at for at, other in enumerate(plan.homes) if other == home]
        self.scale = 1
        for at in self.own:
            self.scale = lcm(self.scale, plan.lengths[at])
        self.rates = {at: self.rates_of(plan, at) for at in self.own}
        self.heights = {0: [0 for _ in plan.homes]}
        row = [0]
        step = 0
        while step < len(row):
            row.extend(self.climb(plan, row[step]))
            step += 1

    def rates_of(self, plan, at):
        """What a message of the kind at this place sends in the mean, times the scale."""
        times = self.scale // plan.lengths[at]
        return [times * ((plan.lengths[at] if to == at else 0) - less) for to, less in enumerate(plan.drains[at])]

    def climb(self, plan, state):
        """Tell the heights of the states that follow this one; a list of those that had none yet."""
        new = []
        for at in self.own:
            behind = plan.follows[at][state]
            if behind not in self.heights:
                high = [low - rate for low, rate in zip(self.heights[state], self.rates[at])]
                for to, count in plan.sends[at][state]:
                    high[to] = high[to] + count * self.scale
                self.heights[behind] = high
                new.append(behind)
        return new

    def between(self, state, behind, at, count):
        """What so many messages of the kind at a place send of each kind, on the way from a state to another."""
        rates, low, high = self.rates[at], self.heights[state], self.heights[behind]
        return [(count * rate + high[to] - low[to]) // self.scale for to, rate in enumerate(rates)]


def columns_of(rows, places):
    """For each kind of a table, its steps."""
    return [[inner_step(row[column], places) for row in rows] for column in range(len(rows[0]))]


def inner_step(step, places):
    follows, pairs = step
    return (follows, [(places[name], count) for name, count in pairs if name in places])


def drain(plan, at):
    """What a round of the kind at this place takes of each kind, less what it sends."""
    left = [plan.lengths[at] if to == at else 0 for to in range(len(plan.homes))]
    for state in plan.tracks[at].rings[0]:
        for to, count in plan.sends[at][state]:
            left[to] = left[to] - count
    return left


def sent_by(plan, at):
    """The places of the kinds that messages of the kind at this place send."""
    states = list(plan.parts[plan.homes[at]].heights)
    return [to for state in states for to, _ in plan.sends[at][state]]


def groups_of(leads):
    """The places of kinds in groups in which all cause one another, and each behind those that cause it.

    `leads` has, for each place, the places of all kinds that are sent because of it, itself among them.
    """
    places = list(range(len(leads)))
    causes = [sum([1 for other in places if at in leads[other]]) for at in places]
    groups = []
    # What another group causes has all the causes that are in that group, and its own besides.
    for many in range(1, len(leads) + 1):
        for at in places:
            group = [other for other in places if other in leads[at] and at in leads[other]]
            if causes[at] == many and group[0] == at:
                groups.append(group)
    return groups
