"""Two customs of one house rule, and lands of them, for tests: by chance, and gone through plainly."""

import itertools

from namesakes.customs import Custom
from namesakes.records import Record
from tests.families import Family, chance_clauses, chance_custom, chance_row, label_at

DECIDES = ("father", "mother", "child")


def with_clauses(custom, sons, daughters):
    return Custom(sons, daughters, house=custom.house, son_weds=custom.son_weds, daughter_weds=custom.daughter_weds)


def chance_other(rng, custom, most=2):
    """A custom of the same house rule that differs in the clauses of a kind, in a Free, or in more."""
    sons, daughters = list(custom.sons), list(custom.daughters)
    further = [chance_clauses(rng, custom.width, 2, most) for _ in range(2)]
    pick = rng.randrange(5)
    if pick in (0, 4):
        sons = further[0]
    if pick in (1, 4):
        daughters = further[1]
    if pick == 2:
        sons[-1] = further[0][-1]
    if pick == 3:
        daughters[-1] = further[1][-1]
    return with_clauses(custom, sons, daughters)


def chance_pair(rng, most=2):
    one = chance_custom(rng, rng.choice([0, 0, 0, 1]), most=most)
    return one, chance_other(rng, one, most)


class PlainLand:
    """The names and sides of a record's persons by a land, told plainly."""

    def __init__(self, customs, decides, second, width):
        self.customs, self.decides, self.second = customs, decides, second
        self.sides = {}
        self.family = Family(customs[0], [])
        self.width = width

    def side(self, row):
        """The side of the child of a born row."""
        parent = row[1] if self.decides == "father" or self.decides == "child" and row[3] == "s" else row[2]
        return self.sides[parent]

    def custom(self, row):
        return self.customs[self.side(row)]

    def let(self, row):
        """None for a name that is free, with those that are barred, or the name that is taken."""
        self.family.custom = self.custom(row)
        return self.family.judge(row), self.family.barred_names(row)

    def say(self, row):
        if row[0] == "comes":
            self.sides[row[1]] = 1 if row[1] in self.second else 0
        if row[0] == "born":
            self.family.custom = self.custom(row)
            self.sides[row[4]] = self.side(row)
        self.family.say(row)

    def given(self, label):
        return self.family.told[label][0]


def lets(family, row):
    """Whether the family's custom lets the choice of a born row as the child's name."""
    name = family.judge(row)[1]
    return name == row[5] if name is not None else row[5] not in family.barred_names(row)


def first_wrong(custom, record):
    """The first child whose choice the custom does not let, gone through row by row."""
    family = Family(custom, [])
    for row in record:
        if row[0] == "born" and not lets(family, row):
            return row[4]
        family.say(row)
    return None


def kept_record(rng, customs, decides, many, pool=5):
    """(record, second): by the land of these customs each child's choice is its name."""
    width = customs[0].width
    second = []
    land = PlainLand(customs, decides, second, width)
    rows = []
    number = 0
    while len(rows) < many:
        row = chance_row(rng, Record(width, rows), label_at(number), width, pool)
        number += 1
        if row is None:
            continue
        if row[0] == "comes" and rng.random() < 0.5:
            second.append(row[1])
        if row[0] == "born":
            (_, name, _), barred = land.let(row)
            if name is None:
                name = rng.randrange(pool)
                while name in barred:
                    name = rng.randrange(pool + len(barred) + 1)
            row = row[:5] + (name,)
        land.say(row)
        rows.append(row)
    return Record(width, rows), tuple(second)


def plain_namesakes(record, given):
    """Pairs of living children of one couple with one given name, told plainly."""
    pairs = []
    for one, other in itertools.combinations([label for label in record.born if record.is_alive(label)], 2):
        same = (record.father_of(one), record.mother_of(one)) == (record.father_of(other), record.mother_of(other))
        if same and given(one) == given(other):
            pairs.append((one, other))
    return tuple(pairs)
