"""Running: all that waits is taken, and all that is sent meanwhile, however many messages these are."""

from everyload.leaps import Leaps
from everyload.searches import Search

# So few messages of a kind are taken step by step, which costs less than telling of all in one go.
FEW = 3
# How often messages are taken ahead of leaps, and from one look into a search to the next.
FIRST = 300
TURN = 2000
# How many choices such a look goes through.
LOOKS = 200


class Course:
    """A web at work: its states, what waits and what has been taken, by the places of handlers and of kinds.

    What waits is below 0 for a kind of which more have been taken than came so far.
    """

    def __init__(self, plan, states, waiting):
        self.plan = plan
        self.states = list(states)
        self.waiting = list(waiting)
        self.counts = [0 for _ in waiting]

    def take(self, at, count):
        """Let so many messages of the kind at this place be taken."""
        home = self.plan.homes[at]
        self.counts[at] = self.counts[at] + count
        self.waiting[at] = self.waiting[at] - count
        if count > FEW:
            self.take_many(home, at, count)
            return
        state = self.states[home]
        for _ in range(count):
            for to, each in self.plan.sends[at][state]:
                self.waiting[to] = self.waiting[to] + each
            state = self.plan.follows[at][state]
        self.states[home] = state

    def take_many(self, home, at, count):
        state = self.states[home]
        behind = self.plan.tracks[at].led(state, count)
        more = self.plan.parts[home].between(state, behind, at, count)
        self.waiting = [waits + comes for waits, comes in zip(self.waiting, more)]
        self.states[home] = behind

    def settle(self, own, most):
        """Take what waits of these kinds, all of one in one go, and no more than so often; whether all is taken."""
        left = most
        idle = 0
        turn = 0
        while idle < len(own):
            at = own[turn]
            count = self.waiting[at]
            if count <= 0:
                idle += 1
            elif left == 0:
                return False
            else:
                self.take(at, count)
                left = left - 1
                idle = 0
            turn = turn + 1 if turn + 1 < len(own) else 0
        return True

    def take_all(self, own, counts):
        for at, count in zip(own, counts):
            self.take(at, count)

    def leap(self, leaps):
        """Take what will be taken in any case; whether there was something."""
        counts = leaps.least_counts(self.states, self.waiting)
        self.take_all(leaps.own, counts)
        return any([count > 0 for count in counts])

    def seek(self, leaps):
        """Settle, and look for the end in between: the one or the other comes first."""
        search = Search(leaps, self.states, self.waiting)
        ahead = (self.states, self.waiting, self.counts)
        self.states, self.waiting, self.counts = [list(row) for row in ahead]
        found = None
        while found is None and not self.settle(leaps.own, TURN):
            taken = [self.counts[at] - ahead[2][at] for at in leaps.own]
            found = search.look(LOOKS, taken)
        if found is not None:
            self.states, self.waiting, self.counts = ahead
            self.take_all(leaps.own, found)


def run_out(plan, states, waiting):
    """The pair of the states and the counts taken, when nothing waits any more."""
    course = Course(plan, states, waiting)
    # Kinds of a group are not sent by what comes behind it: so one group after the other can be done with.
    for number, own in enumerate(plan.groups):
        if not course.settle(own, FIRST):
            finish(course, number, own)
    return (course.states, course.counts)


def finish(course, number, own):
    """Take all that waits of the kinds of a group, and all that is sent of them meanwhile."""
    plan = course.plan
    if plan.leaps[number] is None:
        plan.leaps[number] = Leaps(plan, own)
    leaps = plan.leaps[number]
    # A leap may lead handlers to where fewer states are left to come to, and then more is sure.
    while course.leap(leaps):
        pass
    if not course.settle(own, TURN):
        course.seek(leaps)
