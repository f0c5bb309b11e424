"""Customs, records and namings for tests: some by chance from a fixed seed.

The namings here are worked out anew, slowly and plainly, from the rows and from
the texts of clauses, so that they can be held against those of the package.
"""

import itertools

from namesakes.clauses import Alive, Dead, Free, Never, Number, Take, Unborne, Unlike
from namesakes.customs import Custom
from namesakes.records import Record

# Things of other kinds, for places where a number, a label or the like stands.
ODD_THINGS = (True, False, None, "", "1", "own", 1.0, 0.0, b"s", (), [], {}, [0], (0,), {"s"}, object(), len, 1j)
WAYS = ["".join(way) for many in range(4) for way in itertools.product("fm", repeat=many)]


class AlwaysEqual:
    """Calls itself equal to everything, so that kinds must be asked first."""

    def __eq__(self, other):
        return True

    def __hash__(self):
        return 0

    def __len__(self):
        return 1


def label_at(number):
    """The label of this number: aa, ab, .. and so on."""
    letters = ""
    while number or len(letters) < 2:
        number, rest = divmod(number, 26)
        letters = chr(97 + rest) + letters
    return letters


def line_rows(generations):
    """Rows of a line of so many couples: a son of each weds a founder."""
    rows = [("comes", "fz", "s", 0, ()), ("comes", "mz", "d", 1, ()), ("weds", "fz", "mz")]
    father, mother = "fz", "mz"
    for number in range(generations):
        son, wife = "s" + label_at(number), "w" + label_at(number)
        rows += [("born", father, mother, "s", son, number), ("comes", wife, "d", number, ()), ("weds", son, wife)]
        father, mother = son, wife
    return rows


def sources(width, longest=3):
    return [way for way in WAYS[1:] if len(way) <= longest] + [f"{p}.{i}" for p in "fm" for i in range(width)]


def chance_condition(rng, width, longest=2):
    sort = rng.randrange(6)
    way = rng.choice([way for way in WAYS[1:] if len(way) <= longest])
    if sort == 0:
        return Number(rng.randint(1, 4))
    if sort in (1, 2):
        return (Alive, Dead)[sort - 1](way)
    if sort in (3, 4):
        return (Unborne, Never)[sort - 3]()
    return Unlike(rng.choice(sources(width, longest)), rng.choice(sources(width, longest)))


def chance_clauses(rng, width, longest=2, most=2):
    clauses = []
    for _ in range(rng.randint(0, most)):
        conditions = [chance_condition(rng, width, longest) for _ in range(rng.randint(0, 2))]
        clauses.append(Take(rng.choice(sources(width, longest)), *conditions))
    bars = [rng.choice(sources(width, longest) + ["living", "ever"] * 2) for _ in range(rng.randint(0, 2))]
    return clauses + [Free(*bars)]


def chance_custom(rng, width=None, longest=2, most=2):
    width = rng.randint(0, 2) if width is None else width
    rules = [("f", i) for i in range(width)] + [("m", i) for i in range(width)] + [("given", "f"), ("given", "m")]
    return Custom(
        chance_clauses(rng, width, longest, most),
        chance_clauses(rng, width, longest, most),
        house=[rng.choice(rules) for _ in range(width)],
        son_weds=[rng.choice(["own", *range(width)]) for _ in range(width)],
        daughter_weds=[rng.choice(["own", *range(width)]) for _ in range(width)],
    )


def chance_record(rng, custom, many, pool=5):
    """A record of so many rows that fits the custom; its names are below pool and a few more."""
    rows = []
    number = 0
    while len(rows) < many:
        record = Record(custom.width, rows)
        row = chance_row(rng, record, label_at(number), custom.width, pool)
        number += 1
        if row is None:
            continue
        if row[0] == "born":
            barred = Family(custom, rows).barred_names(row)
            name = rng.randrange(pool)
            while name in barred:
                name = rng.randrange(pool + len(barred) + 1)
            row = row[:5] + (name,)
        rows.append(row)
    return Record(custom.width, rows)


def chance_row(rng, record, label, width, pool):
    sort = rng.choice(["comes", "weds", "weds", "born", "born", "born", "dies"])
    if sort == "comes":
        return ("comes", label, rng.choice("sd"), rng.randrange(pool), tuple(rng.randrange(pool) for _ in range(width)))
    unwed = [who for who in record.living if record.mate_of(who) is None]
    men = [who for who in unwed if record.kind_of(who) == "s"]
    women = [who for who in unwed if record.kind_of(who) == "d"]
    if sort == "weds" and men and women:
        return ("weds", rng.choice(men), rng.choice(women))
    if sort == "born" and record.couples:
        father, mother = rng.choice(record.couples[-3:])
        return ("born", father, mother, rng.choice("sd"), label, 0)
    if sort == "dies" and record.living and rng.random() < 0.7:
        return ("dies", rng.choice(record.living))
    return None


class Family:
    """The rows of a record, and the names that a custom gives, told plainly."""

    def __init__(self, custom, rows):
        self.custom = custom
        self.rows = []
        self.told = {}
        for row in rows:
            self.say(row)

    def say(self, row):
        if row[0] == "comes":
            self.told[row[1]] = [row[3], row[4], row[4], None, (), False]
        elif row[0] == "weds":
            self.wed(row[1], row[2])
        elif row[0] == "born":
            index, name, passed = self.judge(row)
            house = tuple(self.born_house(rule, row[1], row[2]) for rule in self.custom.house)
            free = name is None
            self.told[row[4]] = [row[5] if free else name, house, house, index, passed, free]
        self.rows.append(row)

    def wed(self, father, mother):
        his, hers = self.told[father][2], self.told[mother][2]
        self.told[father][2] = tuple(his[i] if r == "own" else hers[r] for i, r in enumerate(self.custom.son_weds))
        self.told[mother][2] = tuple(hers[i] if r == "own" else his[r] for i, r in enumerate(self.custom.daughter_weds))

    def born_house(self, rule, father, mother):
        first, second = rule
        if first == "given":
            return self.told[{"f": father, "m": mother}[second]][0]
        return self.told[{"f": father, "m": mother}[first]][2][second]

    def elder(self, row, way):
        """The elder of the child of a born row."""
        person = row[1] if way[0] == "f" else row[2]
        for letter in way[1:]:
            births = [other for other in self.rows if other[0] == "born" and other[4] == person]
            if not births:
                return None
            person = births[0][1] if letter == "f" else births[0][2]
        return person

    def name_at(self, row, source):
        if "." in source:
            return self.told[row[1] if source[0] == "f" else row[2]][2][int(source[2])]
        elder = self.elder(row, source)
        return None if elder is None else self.told[elder][0]

    def is_dead(self, label):
        return ("dies", label) in self.rows

    def children(self, father, mother):
        return [row[4] for row in self.rows if row[0] == "born" and row[1:3] == (father, mother)]

    def borne(self, father, mother):
        return [self.told[who][0] for who in self.children(father, mother) if not self.is_dead(who)]

    def ever(self, father, mother):
        return [self.told[who][0] for who in self.children(father, mother)]

    def holds(self, row, condition, source):
        words = str(condition).split(" ")
        if words[0] == "number":
            kind = [other for other in self.rows if other[0] == "born" and other[1:4] == row[1:4]]
            return min(4, len(kind) + 1) == int(words[1])
        if words[0] in ("alive", "dead"):
            elder = self.elder(row, words[1])
            return elder is not None and self.is_dead(elder) == (words[0] == "dead")
        if words[0] in ("unborne", "never"):
            names = self.borne(*row[1:3]) if words[0] == "unborne" else self.ever(*row[1:3])
            return self.name_at(row, source) not in names
        one, other = [self.name_at(row, place) for place in words[1:]]
        return None not in (one, other) and one != other

    def judge(self, row):
        """(index, name or None, passed) of the child of a born row behind these rows."""
        passed = []
        for index, clause in enumerate(self.custom.clauses(row[3])):
            if clause.MANNER == "free":
                return index, None, tuple(passed)
            name = self.name_at(row, clause.source)
            wrong = [i for i, c in enumerate(clause.conditions) if name is None or not self.holds(row, c, clause.source)]
            if name is not None and not wrong:
                return index, name, tuple(passed)
            passed.append("nobody" if name is None else wrong[0])

    def barred_names(self, row):
        """The barred names, if the child of this born row is left free, else ()."""
        if self.judge(row)[1] is not None:
            return ()
        names = []
        for bar in self.custom.clauses(row[3])[-1].bars:
            if bar == "living":
                names += self.borne(*row[1:3])
            elif bar == "ever":
                names += self.ever(*row[1:3])
            else:
                names.append(self.name_at(row, bar))
        return tuple(name for name in names if name is not None)
