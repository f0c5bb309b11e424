"""The package keeps the rules of the language subset, as far as a check can see."""

import unittest

from tests import language


class LanguageTest(unittest.TestCase):
    def test_there_are_no_breaches(self):
        self.assertEqual(list(language.all_faults()), [])

    def test_the_folder_holds_plain_files_alone(self):
        names = [path.name for path in language.PACKAGE.iterdir() if path.name != "__pycache__"]
        self.assertTrue(all(name.endswith(".py") and name == name.lower() for name in names))
        self.assertIn("__init__.py", names)
