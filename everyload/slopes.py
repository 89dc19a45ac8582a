"""A sum over the loads of a handler.

The worth of a load is the sum of its counts times the means of its kinds, together with the height of the state to
which it leads. All of this is told times a scale, so that it stays with integers.
"""

from math import lcm

from everyload.climbs import Climb
from everyload.terms import sum_of
from everyload.tracks import Track


class Slope:
    """The worths of the steps of a handler, all states of which are reachable.

    For the kind at a place, `follows` and `gains` have, for each state, the state that follows and the worth of the
    step; `means` has the mean worth, times the scale. `heights` has the height of each state, times the scale.
    """

    def __init__(self, handler, terms):
        factors = dict(terms)
        places = list(range(len(handler.kinds)))
        self.follows = [[row[at][0] for row in handler.rows] for at in places]
        self.gains = []
        for at, kind in enumerate(handler.kinds):
            own = factors.get(kind, 0)
            self.gains.append([own + sum_of(factors, row[at][1]) for row in handler.rows])
        self.tracks = [Track(follows) for follows in self.follows]
        rings = [track.rings[0] for track in self.tracks]
        self.scale = 1
        for ring in rings:
            self.scale = lcm(self.scale, len(ring))
        self.means = []
        for ring, gains in zip(rings, self.gains):
            self.means.append(self.scale // len(ring) * sum([gains[state] for state in ring]))
        self.heights = {0: 0}
        row = [0]
        step = 0
        while step < len(row):
            row.extend(self.raised(row[step]))
            step += 1

    def raised(self, state):
        """Tell the heights of the states that follow this one; a list of those that had none yet."""
        new = []
        for follows, gains, mean in zip(self.follows, self.gains, self.means):
            if follows[state] not in self.heights:
                self.heights[follows[state]] = self.heights[state] + gains[state] * self.scale - mean
                new.append(follows[state])
        return new

    def is_endless(self):
        """Whether some loads pass every number."""
        return any([mean > 0 for mean in self.means])

    def climb(self):
        return Climb(self.follows, self.gains, 0)
