"""Where messages of one kind lead a handler, however many there are."""


class Track:
    """Tells of one kind. Each state leads, behind some messages, onto a ring of states.

    For each state `depths` has the number of these messages, `rings` the ring, and `spots` the place on it from which
    a state of the ring would come as far.
    """

    def __init__(self, follows):
        many = len(follows)
        self.follows = follows
        self.depths = [-1] * many
        self.rings = [[]] * many
        self.spots = [0] * many
        for state in range(many):
            self.trace(state)

    def trace(self, first):
        """Fill in what is told of this state and of all behind it."""
        path = []
        places = {}
        state = first
        while self.depths[state] < 0 and state not in places:
            places[state] = len(path)
            path.append(state)
            state = self.follows[state]
        if self.depths[state] < 0:
            self.close(path[places[state]:])
        for on_path in path[::-1]:
            if self.depths[on_path] < 0:
                behind = self.follows[on_path]
                self.depths[on_path] = self.depths[behind] + 1
                self.rings[on_path] = self.rings[behind]
                self.spots[on_path] = self.spots[behind] - 1

    def close(self, ring):
        for spot, state in enumerate(ring):
            self.depths[state] = 0
            self.rings[state] = ring
            self.spots[state] = spot

    def led(self, state, count):
        """The state behind so many messages."""
        if count < self.depths[state]:
            behind = state
            for _ in range(count):
                behind = self.follows[behind]
            return behind
        ring = self.rings[state]
        return ring[(self.spots[state] + count) % len(ring)]
