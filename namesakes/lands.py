"""Lands of two customs, in which every person has a side for ever."""

from namesakes.customs import Custom
from namesakes.errors import BadLand, BadSecond, BadWidth
from namesakes.records import is_label, is_sequence
from namesakes.twocustoms import is_same_house
from namesakes.walk import Walk


class Land:
    """Two customs of one house rule, and who decides the side of a child."""

    FATHER = "father"
    MOTHER = "mother"
    CHILD = "child"

    def __init__(self, one, other, decides):
        if not isinstance(one, Custom) or not isinstance(other, Custom):
            raise BadLand("custom")
        if not is_same_house(one, other):
            raise BadLand("house")
        if not isinstance(decides, str) or decides not in (Land.FATHER, Land.MOTHER, Land.CHILD):
            raise BadLand("decides")
        self.customs = (one, other)
        self.decides = decides

    def side_of_child(self, kind, sides):
        """The side of a child of this kind; `sides` are those of the father and of the mother."""
        if self.decides == Land.CHILD:
            return sides[0] if kind == "s" else sides[1]
        return sides[0] if self.decides == Land.FATHER else sides[1]

    def mirrored(self):
        """The land of the mirrored customs, in which fathers and mothers are exchanged."""
        decides = {Land.FATHER: Land.MOTHER, Land.MOTHER: Land.FATHER, Land.CHILD: Land.CHILD}
        one, other = self.customs
        return Land(one.mirrored(), other.mirrored(), decides[self.decides])

    def __eq__(self, other):
        return type(self) is type(other) and self.customs == other.customs and self.decides == other.decides


def _sides_of(land, record, second):
    """The side of each person; sides hang on no name."""
    sides = {label: 1 for label in second}
    for row in record.rows:
        if row[0] == "comes":
            sides.setdefault(row[1], 0)
        elif row[0] == "born":
            sides[row[4]] = land.side_of_child(row[3], (sides[row[1]], sides[row[2]]))
    return sides


class LandWalk(Walk):
    """A walk in which each child is named by the custom of its side."""

    def __init__(self, land, sides):
        Walk.__init__(self, land.customs[0])
        self.land = land
        self.sides = sides

    def custom_of_child(self, father, mother, kind):
        side = self.land.side_of_child(kind, (self.sides[father], self.sides[mother]))
        return self.land.customs[side]


def _check_second(record, second):
    if not is_sequence(second):
        raise BadSecond(0, "second")
    founders = {label: True for label in record.founders}
    met = {}
    for index, label in enumerate(second):
        if not is_label(label) or label not in founders:
            raise BadSecond(index, "label")
        if label in met:
            raise BadSecond(index, "double")
        met[label] = True


class LandNaming:
    """The names of all persons of a record, each child's by the custom of its side."""

    def __init__(self, land, record, second=()):
        if record.width != land.customs[0].width:
            raise BadWidth(record.width)
        _check_second(record, second)
        walk = LandWalk(land, _sides_of(land, record, second))
        for row in record.rows:
            walk.go(row)
        self.land = land
        self.record = record
        self.second = tuple(second)
        self._walk = walk

    def side_of(self, label):
        self.record.check_person(label)
        return self._walk.sides[label]

    def given_of(self, label):
        self.record.check_person(label)
        return self._walk.givens[label]

    def clause_of(self, label):
        """The index of the clause that named the child or left it free, None for a founder."""
        self.record.check_person(label)
        return self._walk.clause_numbers[label]
