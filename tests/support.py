"""What the tests share."""

import unittest

# Values that are no integers, no names, no tuples of anything useful and no objects of the program.
STRANGE = (None, True, False, "", "Box", "a b", b"box", [], {}, [("box", 1)], {"box": 1}, (), ("box",),
           ("box", 1), (("box", 1),), object(), int, len, range(3), frozenset(("a",)), -1, 10 ** 45)


def nested(depth):
    value = ("box", 1)
    for _ in range(depth):
        value = (value,)
    return value


class Anything:
    """Claims to be equal to whatever it is compared with."""

    def __eq__(self, other):
        return True

    def __hash__(self):
        return hash("a")


class Case(unittest.TestCase):
    def fails(self, error, attributes, call, *values, **named):
        """The call raises just this error, with just these attributes."""
        with self.assertRaises(error) as caught:
            call(*values, **named)
        self.assertIs(type(caught.exception), error)
        self.same(caught.exception.__dict__, attributes)

    def same(self, one, other):
        """Equal, and of one class: True does not stand for 1 here."""
        self.assertEqual(one, other)
        self.assertIs(type(one), type(other))
        if isinstance(one, dict):
            self.same(list(one.items()), list(other.items()))
        if isinstance(one, (list, tuple)):
            for first, second in zip(one, other):
                self.same(first, second)
