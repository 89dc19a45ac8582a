"""What loads do to lasting rests.

Counts of messages, also below 0, that together do nothing are all sums and differences of some rows: one row for each
kind. A row comes of a round: messages that lead one handler to where it was. What a round takes, less what it sends,
does nothing to a lasting rest; and where a load does nothing, what was delivered is made of rounds.
"""

from math import gcd

from everyload.matrices import inverse

# No more often than this are rounds added: where webs only just come to an end it would take too long.
MOST_ADDED = 1000


class Effects:
    """The rows of a web stand in `grid`; `number` is their determinant, which is the number of lasting rests.

    Some counts do nothing exactly if the number divides them times each column of `back`. `periods` has, for each kind,
    the least number of messages that do nothing; `whole` has counts of all kinds, each at least 1, that do nothing.
    """

    def __init__(self, plan):
        self.sides = [Side(plan, home) for home in range(len(plan.parts))]
        self.grid = [row for side in self.sides for row in side.drained(plan)]
        self.number, self.back = inverse(self.grid)
        self.periods = [self.period(at) for at in range(len(self.grid))]
        self.whole = [(count - 1) % each + 1 for count, each in zip(drained_by_all(plan.drains), self.periods)]

    def period(self, at):
        """The least number of messages of the kind at this place that do nothing."""
        shared = self.number
        for each in self.back[at]:
            shared = gcd(shared, each)
        return self.number // shared

    def is_idle(self, counts):
        for to in range(len(counts)):
            told = sum([count * row[to] for count, row in zip(counts, self.back)])
            if told % self.number != 0:
                return False
        return True


class Side:
    """One handler where messages of all its kinds lead back.

    `own` has the places of its kinds; `places` has each of these states with counts of messages that lead there from
    the first one; `rounds` are counts that lead back to where they begin. All that lead back are made of rounds.
    """

    def __init__(self, plan, home):
        self.own = plan.parts[home].own
        self.scale = plan.parts[home].scale
        first = 0
        for at in self.own:
            first = plan.tracks[at].led(first, plan.tracks[at].depths[first])
        self.places = {first: [0 for _ in self.own]}
        self.rounds = []
        for column, at in enumerate(self.own):
            self.add_kind(plan.follows[at], column)

    def add_kind(self, follows, column):
        """Go on by messages of the kind in this column, as far as this leads to new states."""
        members = list(self.places)
        layer = [follows[state] for state in members]
        many = 1
        while layer[0] not in self.places:
            for member, state in zip(members, layer):
                counts = list(self.places[member])
                counts[column] = many
                self.places[state] = counts
            layer = [follows[state] for state in layer]
            many += 1
        back = [-count for count in self.places[layer[0]]]
        back[column] = back[column] + many
        self.rounds.append(back)

    def drained(self, plan):
        """For each round, what it takes of each kind of the web, less what it sends."""
        return [self.drain(plan, counts) for counts in self.rounds]

    def drain(self, plan, counts):
        row = [0 for _ in plan.homes]
        for at, count in zip(self.own, counts):
            times = count * (self.scale // plan.lengths[at])
            row = [told + times * each for told, each in zip(row, plan.drains[at])]
        return [told // self.scale for told in row]

    def between(self, state, other):
        """Counts, perhaps below 0, that lead from one of these states to another."""
        return [more - less for more, less in zip(self.places[other], self.places[state])]


def drained_by_all(drains):
    """What some rounds of all kinds take of each kind, less what they send: if it can be found soon, at least 1."""
    counts = [sum(column) for column in zip(*drains)]
    for _ in range(MOST_ADDED):
        lacking = [at for at, count in enumerate(counts) if count < 1]
        if len(lacking) == 0:
            break
        # Other counts become less by this, so that nothing is added that could be left out.
        row = drains[lacking[0]]
        times = (row[lacking[0]] - counts[lacking[0]]) // row[lacking[0]]
        counts = [count + times * each for count, each in zip(counts, row)]
    return counts


def effects_of(web):
    """The Effects of a web, worked out when they are first asked for."""
    plan = web.plan
    if plan.effects is None:
        plan.effects = Effects(plan)
    return plan.effects
