"""Promise 9: the errors and the limits."""

import unittest

from everyload import errors, limits
from tests.support import Case, nested

BASES = {"ValueFault": ValueError, "StateFault": LookupError, "LimitFault": ArithmeticError}

CLASSES = {
    "ValueFault": {
        ("value",): ("NotALoad NotAHandler NotAWeb InvalidName InvalidText InvalidNumber InvalidRest InvalidChoice"
                     " InvalidLine UnknownKind"),
        ("index",): ("InvalidPairs InvalidKinds InvalidRows InvalidNames InvalidHandlers InvalidEntries"
                     " InvalidIndexes InvalidTerms InvalidDeeds"),
    },
    "StateFault": {
        ("name",): "Lacking",
        ("state", "one", "other"): "Heeds",
        ("rest",): "NotLasting",
        ("load",): "Meddling Refused",
        (): "Endless NotComparable NothingToUndo Busy",
    },
    "LimitFault": {("limit",): "TooManyKinds TooManyStates TooManyRows"},
}


def listed():
    """(class, base class, names of attributes) for each error of the interface."""
    found = []
    for base, groups in CLASSES.items():
        for attributes, names in groups.items():
            for name in names.split():
                found.append((getattr(errors, name), getattr(errors, base), attributes))
    return found


class Limits(Case):
    def test_the_numbers(self):
        told = [limits.MOST_KINDS, limits.MOST_HANDLERS, limits.MOST_STATES, limits.MOST_TERMS, limits.MOST_ROWS]
        self.same(told, [8, 5, 600, 6, 20000])


class Errors(Case):
    def test_there_are_all_of_them(self):
        self.assertEqual(len(listed()), 31)
        for error, base, _ in listed():
            self.assertTrue(issubclass(error, base))
            self.assertEqual(error.__module__, "everyload.errors")

    def test_base_classes(self):
        for name, above in BASES.items():
            base = getattr(errors, name)
            self.assertTrue(issubclass(base, above))
            self.assertEqual(base.__module__, "everyload.errors")
            others = [other for other in BASES.values() if issubclass(base, other)]
            self.assertEqual(others, [above])

    def test_no_other_class_of_errors_stands_above(self):
        every = [error for error, _, _ in listed()] + [getattr(errors, name) for name in BASES]
        for error, base, attributes in listed():
            made = error(*attributes)
            above = [other for other in every if isinstance(made, other)]
            self.assertEqual(set(above), {error, base})
        for name in BASES:
            made = getattr(errors, name)()
            self.assertEqual([other for other in every if isinstance(made, other)], [getattr(errors, name)])

    def test_attributes_by_place_and_by_name(self):
        for error, _, attributes in listed():
            worths = [("worth", at) for at, _ in enumerate(attributes)]
            for made in (error(*worths), error(**dict(zip(attributes, worths)))):
                self.assertEqual([getattr(made, name) for name in attributes], worths)
                self.assertEqual(made.__dict__, dict(zip(attributes, worths)))

    def test_attributes_may_be_anything(self):
        for worth in (None, [], {}, (), "", 10 ** 5000, nested(30), object(), ValueError):
            for error, _, attributes in listed():
                made = error(*[worth for _ in attributes])
                for name in attributes:
                    self.assertIs(getattr(made, name), worth)

    def test_attributes_are_due(self):
        for error, _, attributes in listed():
            if attributes:
                self.assertRaises(TypeError, error)

    def test_they_are_caught_under_their_base_classes(self):
        for error, base, attributes in listed():
            for above in (base, BASES[base.__name__], Exception):
                with self.assertRaises(above):
                    raise error(*attributes)


if __name__ == "__main__":
    unittest.main()
