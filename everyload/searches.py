"""Looking for the states at which running ends, where it takes long to come there message by message.

States at the end tell what has been taken (see everyload.leaps). If taking so much leads to these very states, all
that comes and is sent would have been taken; and what is taken in fact is the least for which this is so. Hence
choices of states are looked at by what they tell in all, the least first, and the first that holds is the right one.
"""

from everyload.heaps import push, take_least

# More choices than these are not kept: then messages have to tell.
MOST_CHOICES = 2000000


class Search:
    """Begins at some states, with what waits there; each look goes on where the last one stopped."""

    def __init__(self, leaps, states, waiting):
        self.leaps = leaps
        self.unit = leaps.unit
        self.worths = [leaps.worths[home] for home in leaps.homes]
        self.begin = list(states)
        self.sure = leaps.sure_worth(states, waiting)
        self.whole = sum(self.sure)
        self.ranked = [leaps.reach(home, states[home]).ranked for home in leaps.homes]
        self.heap = []
        self.add_choice(tuple([0 for _ in leaps.homes]))

    def add_choice(self, places):
        """Put a choice into the heap: the places of its states among the ranked ones."""
        totals = [ranked[place][0] for ranked, place in zip(self.ranked, places)]
        push(self.heap, (sum(totals), places))

    def add_next(self, places):
        """Put into the heap what comes of a choice by one step at its last place above 0, or at one behind it."""
        last = 0
        for at, place in enumerate(places):
            if place > 0:
                last = at
        for at in range(last, len(places)):
            if places[at] + 1 < len(self.ranked[at]):
                self.add_choice((*places[:at], places[at] + 1, *places[at + 1:]))

    def look(self, most, floor):
        """What is taken of each kind of the group, None if the next choices do not tell it.

        It is known to be no less than `floor`.
        """
        for _ in range(most):
            if not 0 < len(self.heap) <= MOST_CHOICES:
                return None
            total, places = take_least(self.heap)
            self.add_next(places)
            # Most choices tell no whole numbers, and mostly their sum shows it.
            if (self.whole + total) % self.unit == 0:
                ends = [ranked[place][1] for ranked, place in zip(self.ranked, places)]
                counts = self.counts_told(ends, floor)
                if counts is not None and self.led(counts) == ends:
                    return counts
        return None

    def counts_told(self, ends, floor):
        """What is taken if these are the states at the end, None if they cannot be."""
        counts = []
        for at, least in enumerate(floor):
            told = self.sure[at] + sum([worths[state][at] for worths, state in zip(self.worths, ends)])
            count, over = divmod(told, self.unit)
            if over != 0 or count < least:
                return None
            counts.append(count)
        return counts

    def led(self, counts):
        """The states of the handlers of the group behind so many messages of each of its kinds."""
        plan = self.leaps.plan
        states = list(self.begin)
        for at, count in zip(self.leaps.own, counts):
            home = plan.homes[at]
            states[home] = plan.tracks[at].led(states[home], count)
        return [states[home] for home in self.leaps.homes]
