"""The package keeps the rules of the language subset, as far as a check can see."""

import ast
import unittest

from tests import language

# Where a name can stand in a file; NAME is put in place of "NAME".
NAME_PLACES = (
    "def NAME():\n    return 1", "class NAME:\n    pass", "class Box:\n    def NAME(self):\n        return 1",
    "def told(NAME):\n    return 1", "def told(*NAME):\n    return 1", "def told(**NAME):\n    return 1",
    "def told(*, NAME=1):\n    return 1", "NAME = 1", "def told():\n    NAME = 1", "def told(xs):\n    return [1 for NAME in xs]",
    "def told(box):\n    box.NAME = 1", "def told(box):\n    return box.NAME", "def told():\n    return made(NAME=1)",
    "from namesakes.records import NAME", "from namesakes.NAME import told", "from namesakes.records import told as NAME",
    "def told():\n    try:\n        made()\n    except Odd as NAME:\n        pass", "def told():\n    return NAME",
    "def told(x):\n    match x:\n        case [1, *NAME]:\n            pass\n        case NAME:\n            pass",
    "def told():\n    global NAME\n    NAME = 1", "def told():\n    with made() as NAME:\n        pass",
    "def told():\n    return lambda NAME: 1", "def told(x: NAME):\n    return 1", "def told():\n    for NAME in rows:\n        pass",
)
MEMBER_PLACES = tuple(place for place in NAME_PLACES if ".NAME" in place and "import" not in place or "(self)" in place)


class LanguageTest(unittest.TestCase):
    def test_there_are_no_breaches(self):
        self.assertEqual(list(language.all_faults()), [])

    def test_the_folder_holds_plain_files_alone(self):
        names = [path.name for path in language.PACKAGE.iterdir() if path.name != "__pycache__"]
        self.assertTrue(all(name.endswith(".py") and name == name.lower() for name in names))
        self.assertIn("__init__.py", names)


class PlainNamesTest(unittest.TestCase):
    """L12."""

    def faults(self, place, name):
        return list(language.plain_name_faults(ast.parse(place.replace("NAME", name))))

    def test_names_that_are_not_let(self):
        names = ["_cold", "_tuplegetter", "_outside", "_record", "_written_out", "_member_names"]
        names += [name + behind for name in names for behind in ("2", "_", "_3", "34", "__")]
        names += [beginning + rest for rest in ("", "x", "2") for beginning in language.BARRED_BEGINNINGS]
        for place in NAME_PLACES:
            for name in names:
                self.assertNotEqual(self.faults(place, name), [], (place, name))

    def test_a_beginning_that_attributes_and_methods_may_have(self):
        for place in NAME_PLACES:
            for name in ("_walls", "_wall_2", "_wallx"):
                self.assertEqual(self.faults(place, name) == [], place in MEMBER_PLACES, (place, name))
        self.assertEqual(len(MEMBER_PLACES), 3)

    def test_names_that_are_let(self):
        names = ("_records", "_recorded", "record", "_written", "written_out", "_colder", "outside", "_pe", "_lay", "wall",
                 "_law", "_enum", "_cmx", "_member_name", "_rules_or_own", "_twin", "_x")
        for place in NAME_PLACES:
            for name in names:
                self.assertEqual(self.faults(place, name), [], (place, name))

    def test_words_that_stand_nowhere(self):
        for text in ("# a _wall here", "x = '_WallAttr'", "self._wall = 1", "_WallAttr()", "(_wall)"):
            self.assertIsNotNone(language.PLAIN_WORDS.search(text), text)
        for text in ("self._walls = 1", "wall", "x_wall", "_wall2"):
            self.assertIsNone(language.PLAIN_WORDS.search(text), text)
