"""How many messages will be taken in any case, told without taking them.

When nothing waits any more, of each kind as many messages have been taken as came and were sent. By means and
heights these are linear equations: what was taken is what the solution makes of the load, less what it makes of
the heights of the states at the beginning, together with what it makes of those at the end. Only these are not
known yet; but what they tell at the least will be taken in any case.
"""

from math import lcm

from everyload.closures import all_behind
from everyload.matrices import inverse

# Above all numbers of states: an integer can hold a total and a state.
SPAN = 1024


class Leaps:
    """The equations of a group of kinds, told by their places `own`; all other messages are left lying.

    A worth is a row with a number for each kind of the group: `unit` times what it stands for.
    """

    def __init__(self, plan, own):
        number, rows = inverse([[plan.drains[at][to] for to in own] for at in own])
        self.plan = plan
        self.own = own
        self.homes = [home for home in range(len(plan.parts)) if home in [plan.homes[at] for at in own]]
        self.scale = 1
        for home in self.homes:
            self.scale = lcm(self.scale, plan.parts[home].scale)
        self.unit = self.scale * number
        # The inverse tells rounds, and a round has as many messages as its ring has states.
        lengths = [plan.lengths[at] for at in own]
        self.weights = [[each * length for each, length in zip(row, lengths)] for row in rows]
        self.worths = {home: self.part_worths(plan.parts[home]) for home in self.homes}
        self.known = {}

    def worth(self, counts, factor):
        """The worth of so many messages of each kind of the web, times the factor."""
        row = [0 for _ in self.own]
        for at, weights in zip(self.own, self.weights):
            if counts[at] != 0:
                row = [told + counts[at] * factor * weight for told, weight in zip(row, weights)]
        return row

    def part_worths(self, part):
        factor = self.scale // part.scale
        return {state: self.worth(heights, factor) for state, heights in part.heights.items()}

    def states_behind(self, home, state):
        """The states to which kinds of the group can lead a handler from this one."""
        columns = [self.plan.follows[at] for at in self.own if self.plan.homes[at] == home]
        return all_behind(state, lambda on: [follows[on] for follows in columns])

    def reach(self, home, state):
        """The Reach of a handler at this state."""
        if (home, state) not in self.known:
            states = self.states_behind(home, state)
            told = Reach(self.worths[home], states)
            tracks = [self.plan.tracks[at] for at in self.own if self.plan.homes[at] == home]
            # If each kind leads back to the state, all that it leads to lead to one another.
            sharing = states if all([track.depths[state] == 0 for track in tracks]) else [state]
            for each in sharing:
                self.known[(home, each)] = told
        return self.known[(home, state)]

    def sure_worth(self, states, waiting):
        """The worth of what will be taken, but for that of the states at the end."""
        row = self.worth(waiting, self.scale)
        for home in self.homes:
            row = [told - less for told, less in zip(row, self.worths[home][states[home]])]
        return row

    def least_counts(self, states, waiting):
        """For each kind of the group, a number of messages that will be taken in any case."""
        row = self.sure_worth(states, waiting)
        for home in self.homes:
            row = [told + more for told, more in zip(row, self.reach(home, states[home]).least)]
        return [max(0, int(-(-told // self.unit))) for told in row]


class Reach:
    """The worths of the states to which a handler can still be led.

    `least` has the least one for each kind, `ranked` the pairs of the total of a worth and its state, ascending.
    """

    def __init__(self, worths, states):
        self.least = [min([int(worths[state][at]) for state in states]) for at in range(len(worths[0]))]
        codes = sorted([int(sum(worths[state]) * SPAN + state) for state in states])
        self.ranked = [divmod(code, SPAN) for code in codes]
