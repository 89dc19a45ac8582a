"""The package keeps to LANGUAGE.md, as far as `tests.language` can see."""

import unittest

from tests.language import findings


class Language(unittest.TestCase):
    def test_there_are_no_findings(self):
        self.assertEqual(findings(), [])


if __name__ == "__main__":
    unittest.main()
