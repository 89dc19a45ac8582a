"""Great loads that pass a number.

With means above 0 a number may be passed by very many messages only. Of these nearly all are of one kind: of those
that lead the state at the end back to it, round by round, the kind with the greatest mean. Other messages bring less
than as many of this kind, but for some that lead nowhere back.
"""

from everyload.climbs import Climb


class Ascent:
    """Loads of a slope that are mostly of one kind, told by its place, with a mean above 0.

    Their other messages move on from place to place, where a place is the state to which they lead, less one message
    of the chosen kind for each of them, going back on its ring. So a place tells a state for each size of load. Only
    places are of use from which no kind with a greater mean leads back: then none come back with more. `bests` has
    for each place the most that such messages bring, less what as many of the chosen kind would.
    """

    def __init__(self, slope, chosen):
        self.slope = slope
        self.chosen = chosen
        self.track = slope.tracks[chosen]
        states = list(range(len(slope.heights)))
        self.known = {state: self.is_of_use(state) for state in states}
        follows = [[self.moved(state, at) for state in states] for at in range(len(slope.means))]
        gains = [[mean - slope.means[chosen] for _ in states] for mean in slope.means]
        start = self.track.led(0, self.track.depths[0] * len(self.track.rings[0]))
        self.moves = Climb(follows, gains, start)
        self.moves.rise_to_top()
        # All that is behind a place of no use is of no use.
        self.bests = self.moves.best if self.known[start] else {}

    def is_of_use(self, state):
        """Whether the chosen kind leads back to the state, and none with a greater mean does."""
        means = self.slope.means
        back = [mean for mean, track in zip(means, self.slope.tracks) if track.depths[state] == 0]
        return self.track.depths[state] == 0 and not any([mean > means[self.chosen] for mean in back])

    def moved(self, state, at):
        """The place behind a message of the kind at a place, None if there is none of use."""
        if at == self.chosen or not self.known[state]:
            return None
        behind = self.slope.follows[at][state]
        place = self.track.led(behind, len(self.track.rings[behind]) - 1)
        return place if self.known[place] else None

    def least_pass(self, bound, size):
        """The pair (size, place) of the least load above a size whose worth is above the bound; None."""
        found = None
        for place, best in self.bests.items():
            ring = self.track.rings[place]
            for spot in range(len(ring)):
                state = self.track.led(place, spot)
                many = self.least_size(bound * self.slope.scale - best - self.slope.heights[state], size)
                many = many + (spot - many) % len(ring)
                if found is None or many < found[0]:
                    found = (many, place)
        return found

    def least_size(self, height, size):
        """The least number of messages above a size that climb above a height, at the mean of the chosen kind."""
        return max(size + 1, int(height // self.slope.means[self.chosen] + 1))

    def counts_at(self, many, place):
        """The counts of a load of this size that a place stands for."""
        counts = self.moves.counts_at(self.moves.marks[place])
        counts[self.chosen] = many - sum(counts)
        return counts


def far_counts(slope, bound, size):
    """The counts of the least load above a size whose worth is above the bound; None if there is none.

    The size has to be at least twice the number of states: then there are enough messages of the chosen kind.
    """
    best = None
    found = None
    for chosen, mean in enumerate(slope.means):
        if mean > 0:
            ascent = Ascent(slope, chosen)
            told = ascent.least_pass(bound, size)
            if told is not None and (best is None or told[0] < best):
                best, place = told
                found = ascent.counts_at(best, place)
    return found
