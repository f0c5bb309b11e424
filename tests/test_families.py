"""The classes of results of [6.4] to [6.10]: they keep what they are made with [0.5]."""

import unittest

from namesakes.families import Always, ClauseUse, Endless, Family, Most, NeverAlike
from tests.families import ODD_THINGS

RESULTS = {
    Family: ("record", "one", "other"), NeverAlike: ("table", "followed"),
    Most: ("number", "record", "bearers", "table", "prices"),
    Endless: ("record", "father", "mother", "bearer", "ring"), Always: ("table", "counted"),
    ClauseUse: ("table", "unused", "used"),
}


class ResultsTest(unittest.TestCase):
    def test_they_keep_things_of_every_kind_unchecked(self):
        for told, names in RESULTS.items():
            for start in range(len(ODD_THINGS)):
                things = (ODD_THINGS[start:] + ODD_THINGS[:start])[:len(names)]
                for result in (told(*things), told(**dict(zip(names, things)))):
                    for name, thing in zip(names, things):
                        self.assertIs(getattr(result, name), thing, (told, name))
