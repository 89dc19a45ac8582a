"""Ledgers: rows that show where a load leads (ROWS in the document).

What is to be shown is told as a goal: a pair of a rest and the pairs of a load. There is a row for each goal, behind
those for the goals to which it comes down.
"""

from everyload.effects import effects_of
from everyload.errors import TooManyRows
from everyload.folding import Singles
from everyload.limits import MOST_ROWS
from everyload.pairs import added, multiplied


class Ledger:
    """The rows so far, with the number of the row of each goal."""

    def __init__(self, web):
        self.net = web
        self.periods = effects_of(web).periods
        self.singles = Singles(web, web.kinds)
        self.lines = []
        self.numbers = {}

    def show(self, goal):
        """Put in a row for the goal and all that it comes down to; it is the last one."""
        plans = {}
        waiting = [goal]
        while len(waiting) > 0:
            now = waiting[-1]
            if now not in plans:
                if len(plans) == MOST_ROWS:
                    raise TooManyRows(MOST_ROWS)
                plans[now] = self.planned(now)
            lacking = [other for other in plans[now][1] if other not in self.numbers]
            waiting.extend(lacking)
            if len(lacking) == 0:
                del waiting[-1]
                if now not in self.numbers:
                    self.put(now, plans[now])

    def planned(self, goal):
        """The pair of a word and the goals to which this one comes down; for "times" the number stands behind."""
        rest, pairs = goal
        if len(pairs) == 0:
            return (None, [])
        if len(pairs) > 1:
            kind, count = pairs[0]
            return ("then", [(rest, pairs[:1]), (self.behind(rest, kind, count), pairs[1:])])
        kind, count = pairs[0]
        if count == 1:
            return ("take", [self.left_by(rest, kind)])
        return self.parted(rest, kind, count)

    def left_by(self, rest, kind):
        """What is left to be shown when one message has been taken."""
        home = self.net.place(kind)
        follows, sent = self.net.handlers[home].step(rest[home], kind)
        inside = tuple([pair for pair in sent.pairs if pair[0] in self.net.kinds])
        return ((*rest[:home], follows, *rest[home + 1:]), inside)

    def sent_out(self, rest, kind):
        """The pairs of what leaves at once when a message is taken."""
        _, sent = self.net.handlers[self.net.place(kind)].step(rest[self.net.place(kind)], kind)
        return [pair for pair in sent.pairs if pair[0] not in self.net.kinds]

    def parted(self, rest, kind, count):
        """How to come by two or more messages of one kind."""
        path, ring = self.path(rest, kind, count)
        if ring == 0:
            return self.cut(path, kind, count, half(count))
        depth = len(path) - ring
        if depth > 0:
            return self.cut(path, kind, count, depth)
        if count == ring:
            return self.cut(path, kind, count, half(count))
        if count % ring != 0:
            return self.cut([rest], kind, count, count - count % ring)
        return ("times", [(rest, ((kind, ring),))], count // ring)

    def cut(self, path, kind, count, first):
        """So many messages first, and then the others; the path tells to which rest the first ones lead."""
        between = path[first] if first < len(path) else path[0]
        return ("then", [(path[0], ((kind, first),)), (between, ((kind, count - first),))])

    def path(self, rest, kind, count):
        """The rests on the way of so many messages of a kind, and how many at the end of it are a ring, 0 if none."""
        at = self.net.kinds.index(kind)
        # As many different rests as this are on every way of so many messages: often it is known without going it.
        check_taken(count if count < self.periods[at] else self.periods[at])
        path = [rest]
        known = {rest: 0}
        while len(path) <= count:
            check_taken(len(path))
            behind = self.singles.behind(path[-1], at)
            if behind in known:
                return (path, len(path) - known[behind])
            known[behind] = len(path)
            path.append(behind)
        return (path, 0)

    def behind(self, rest, kind, count):
        """The rest behind so many messages of a kind."""
        path, ring = self.path(rest, kind, count)
        if ring == 0:
            return path[count]
        depth = len(path) - ring
        return path[depth + (count - depth) % ring]

    def put(self, goal, plan):
        """Put in the row of a goal to which all others come down that its plan tells of."""
        rest, pairs = goal
        word, others, *times = plan
        self.numbers[goal] = len(self.lines)
        if word is None:
            self.lines.append((rest, pairs, rest, (), None))
            return
        numbers = [self.numbers[other] for other in others]
        last = self.lines[numbers[-1]]
        how = (word, *numbers, *times)
        if word == "take":
            outs = added(last[3], self.sent_out(rest, pairs[0][0]))
        elif word == "then":
            outs = added(self.lines[numbers[0]][3], last[3])
        else:
            outs = multiplied(last[3], times[0])
        self.lines.append((rest, pairs, last[2], outs, how))


def check_taken(many):
    """Raise TooManyRows if a row for a message at each of so many rests, and those that join these, are too many."""
    if 2 * many - 1 > MOST_ROWS:
        raise TooManyRows(MOST_ROWS)


def half(count):
    """The greatest power of 2 that is less than a number above 1: parts of such sizes are of use for others, too."""
    power = 1
    while 2 * power < count:
        power = 2 * power
    return power


def rows_for(web, rest, pairs):
    """The rows that show where a load leads from a rest."""
    ledger = Ledger(web)
    ledger.show((rest, pairs))
    return tuple(ledger.lines)
