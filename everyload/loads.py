"""Loads: bags of messages."""

from everyload.errors import InvalidName, InvalidNumber, InvalidPairs, InvalidText
from everyload.errors import Lacking, NotALoad, UnknownKind
from everyload.figures import figures_of
from everyload.names import check_kinds, is_at_least, is_name
from everyload.pairs import added, first_lacking, greater_of_both, lesser_of_both, multiplied
from everyload.pairs import pairs_text, plain_pairs, read_pairs, taken_away, wrong_pair_at


class Load:
    """A bag of messages: names with counts of at least 1. It never changes."""

    def __init__(self, *pairs):
        wrong = wrong_pair_at(pairs)
        if wrong is not None:
            raise InvalidPairs(wrong)
        self._pairs = plain_pairs(pairs)
        self._counts = dict(self._pairs)

    @staticmethod
    def of(pairs):
        """The load of a tuple of pairs."""
        if not isinstance(pairs, tuple):
            raise InvalidPairs(None)
        return Load(*pairs)

    @staticmethod
    def read(text):
        """The load with this text."""
        pairs = read_pairs(text) if isinstance(text, str) else None
        if pairs is None:
            raise InvalidText(text)
        return Load(*pairs)

    @property
    def pairs(self):
        return self._pairs

    @property
    def names(self):
        return tuple([name for name, _ in self._pairs])

    @property
    def size(self):
        return sum([count for _, count in self._pairs])

    def __getitem__(self, at):
        if not is_name(at):
            raise InvalidName(at)
        return self._counts.get(at, 0)

    # Without this, Python would try to go over a load by the places 0, 1, 2 ..
    def __iter__(self):
        raise TypeError("a load is not iterated over: take its pairs or its names")

    def __contains__(self, x):
        return is_name(x) and x in self._counts

    def __len__(self):
        return len(self._pairs)

    def __add__(self, other):
        if not isinstance(other, Load):
            raise NotALoad(other)
        return Load.of(added(self._pairs, other._pairs))

    def __sub__(self, other):
        if not isinstance(other, Load):
            raise NotALoad(other)
        name = first_lacking(other._pairs, self._counts)
        if name is not None:
            raise Lacking(name)
        return Load.of(taken_away(self._pairs, other._counts))

    def __or__(self, other):
        if not isinstance(other, Load):
            raise NotALoad(other)
        return Load.of(greater_of_both(self._pairs, other._pairs))

    def __and__(self, other):
        if not isinstance(other, Load):
            raise NotALoad(other)
        return Load.of(lesser_of_both(self._pairs, other._counts))

    def __mul__(self, other):
        if not is_at_least(other, 0):
            raise InvalidNumber(other)
        return Load.of(multiplied(self._pairs, other))

    def __rmul__(self, other):
        return self * other

    def __le__(self, other):
        if not isinstance(other, Load):
            raise NotALoad(other)
        return first_lacking(self._pairs, other._counts) is None

    def __lt__(self, other):
        return self <= other and self != other

    def __ge__(self, other):
        # Handed on unasked, what is no load would hand the question back without end.
        if not isinstance(other, Load):
            raise NotALoad(other)
        return other <= self

    def __gt__(self, other):
        return self >= other and self != other

    def __eq__(self, other):
        return isinstance(other, Load) and self._pairs == other._pairs

    def __str__(self):
        return str(pairs_text(self._pairs))

    def __repr__(self):
        return f"Load({len(self._pairs)} names, size {figures_of(self.size)})"


def compare(one, other, kinds):
    """-1, 0 or 1, as the first load comes before the second, is equal to it, or comes behind it."""
    for load in (one, other):
        if not isinstance(load, Load):
            raise NotALoad(load)
    check_kinds(kinds, None)
    for load in (one, other):
        for name in load.names:
            if name not in kinds:
                raise UnknownKind(name)
    first, second = rank(one, kinds), rank(other, kinds)
    if first == second:
        return 0
    return -1 if first < second else 1


def rank(load, kinds):
    """What orders loads of these kinds: by size, then the greater count of each kind first."""
    counts = [-load[kind] for kind in kinds]
    return [load.size, *counts]
