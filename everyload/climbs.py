"""The greatest worths of messages that lead somewhere, fewer messages first."""


class Climb:
    """Goes on, message by message, from a place; places are numbers, and so are the kinds of messages.

    `follows` and `gains` have, for each kind and each place, the place that follows, None if there is none, and what
    the message is worth. `best` has the greatest worth that has been found for each place; `marks` where to read in
    `steps` by which messages. `front` has just what brings more than fewer messages do: only this may lead on to more.
    """

    def __init__(self, follows, gains, start):
        self.follows = follows
        self.gains = gains
        self.best = {start: 0}
        self.marks = {start: 0}
        self.steps = [None]
        self.front = {start: (0, 0)}

    def rise(self):
        """Go on to loads with one more message; whether some bring more than lesser loads."""
        front = {}
        for place, (worth, mark) in self.front.items():
            for at, follows in enumerate(self.follows):
                behind = follows[place]
                more = worth + self.gains[at][place]
                if behind is not None and (behind not in self.best or self.best[behind] < more):
                    self.best[behind] = more
                    self.marks[behind] = len(self.steps)
                    front[behind] = (more, len(self.steps))
                    self.steps.append((mark, at))
        self.front = front
        return len(front) > 0

    def rise_to_top(self):
        """Go on until no more messages bring more, which comes to an end where none bring one back with more."""
        while self.rise():
            pass

    def passing_mark(self, bound):
        """A mark of the front with a worth above the bound, None if there is none."""
        for worth, mark in self.front.values():
            if worth > bound:
                return mark
        return None

    def counts_at(self, mark):
        """The counts of messages of each kind that a mark stands for."""
        counts = [0 for _ in self.follows]
        step = self.steps[mark]
        while step is not None:
            ahead, at = step
            counts[at] = counts[at] + 1
            step = self.steps[ahead]
        return counts
