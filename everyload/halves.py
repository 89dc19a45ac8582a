"""A handler whose kinds are in two parts: where loads of the one, of the other, and of both lead."""

from everyload.ways import first_loads, with_one


class Half:
    """The states to which loads of some kinds lead, in their order; the kinds are told by their places.

    `ways` has the counts of the first loads that lead to the `states`; `last`, for each of them but the first, the
    number of the state ahead of it on its way and the place of the kind that leads on from there. `sends` has, for
    each state of the handler, what messages of these kinds send there.
    """

    def __init__(self, table, places):
        self.places = places
        found = first_loads(0, len(places), lambda state, at: table[state][places[at]][0], None)
        self.states = list(found)
        self.ways = list(found.values())
        numbers = {way: number for number, way in enumerate(self.ways)}
        self.last = [None]
        for way in self.ways[1:]:
            at = last_above_0(way)
            # What is left of a first load without its last message is one, too.
            self.last.append((numbers[with_one_less(way, at)], places[at]))
        self.sends = [[row[place][1] for place in places] for row in table]

    def by_size(self):
        """For each size of ways, the numbers of the states with such ways."""
        sizes = {}
        for number, way in enumerate(self.ways):
            size = sum(way)
            if size not in sizes:
                sizes[size] = []
            sizes[size].append(number)
        return sizes

    def parted(self, number, joint):
        """The ways with one more message, of each kind that does not send at both states the same."""
        alone = self.sends[self.states[number]]
        new = []
        for at, sent in enumerate(self.sends[joint]):
            if sent != alone[at]:
                new.append(with_one(self.ways[number], at))
        return new


class Halves:
    """Both parts of the kinds of a handler; `chosen` has the places of the first half, ascending.

    `joint` has, for the number of a state of the first half and that of one of the second, the state to which loads
    that lead to these two lead together. There is just one: what leads from state 0 to one and the same state leads
    from any other one to one and the same state, too.
    """

    def __init__(self, handler, chosen):
        self.table = handler.rows
        self.one = Half(self.table, chosen)
        self.other = Half(self.table, [at for at in range(len(handler.kinds)) if at not in chosen])
        self.joint = [self.joined(state) for state in self.one.states]

    def joined(self, state):
        """The states to which loads of the second half lead from a state, in the order of that half."""
        row = [state]
        for ahead, at in self.other.last[1:]:
            row.append(self.table[row[ahead]][at][0])
        return row

    def first_parted(self):
        """The counts of the first load for which not the same is sent as for its halves alone; None if there is none.

        Its last message makes the difference, and those ahead of it are the first ones that lead where they lead.
        """
        sizes, others = self.one.by_size(), self.other.by_size()
        best = None
        size = 0
        while best is None and size < len(sizes) + len(others):
            for part in range(size + 1):
                for number in sizes.get(part, []):
                    for beyond in others.get(size - part, []):
                        best = self.earlier(best, number, beyond)
            size += 1
        return best

    def earlier(self, best, number, beyond):
        """The first one among the best counts and those that part a state of each half; all are of one size."""
        joint = self.joint[number][beyond]
        found = best
        for counts in self.one.parted(number, joint):
            found = first_of(found, self.together(counts, self.other.ways[beyond]))
        for counts in self.other.parted(beyond, joint):
            found = first_of(found, self.together(self.one.ways[number], counts))
        return found

    def together(self, counts, others):
        both = [0 for _ in range(len(counts) + len(others))]
        for at, count in zip([*self.one.places, *self.other.places], [*counts, *others]):
            both[at] = count
        return both


def last_above_0(counts):
    last = 0
    for at, count in enumerate(counts):
        if count > 0:
            last = at
    return last


def with_one_less(counts, at):
    return (*counts[:at], counts[at] - 1, *counts[at + 1:])


def first_of(best, counts):
    """The one of two counts that stands ahead, of those of one size; the best may be None."""
    return counts if best is None or counts > best else best
