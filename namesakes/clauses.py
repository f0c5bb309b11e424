"""Clauses of a custom: which name a child takes, and if which conditions hold."""

from namesakes.errors import BadClause, BadCondition
from namesakes.records import is_way, is_whole

MOST_CONDITIONS = 4
HOUSE_SOURCES = ("f.0", "f.1", "m.0", "m.1")
SOURCES = (
    "f", "m", "ff", "fm", "mf", "mm",
    "fff", "ffm", "fmf", "fmm", "mff", "mfm", "mmf", "mmm",
    "f.0", "f.1", "m.0", "m.1",
)
# The words that a Free may have among its bars besides sources.
BAR_WORDS = ("living", "ever")
OTHER_LETTER = {"f": "m", "m": "f"}


def is_source(thing):
    """Whether the thing is a way of 1 to 3 letters or a house name of a parent."""
    return isinstance(thing, str) and thing in SOURCES


def is_bar(thing):
    return is_source(thing) or isinstance(thing, str) and thing in BAR_WORDS


def mirrored_source(source):
    """The source, or the way, with the letters f and m exchanged."""
    return "".join([OTHER_LETTER.get(letter, letter) for letter in source])


def listed(things):
    """The texts of the things, as they stand behind one another in a row of a custom's text."""
    return ", ".join([str(thing) for thing in things])


class Case:
    """What a custom sees of one birth."""

    def __init__(self, kind, number, names, lives, borne=(), ever=()):
        self.kind = kind
        self.number = number
        self.names = dict(names)
        self.lives = dict(lives)
        self.borne = tuple(borne)
        self.ever = tuple(ever)


class Condition:
    """What a Take can ask; callers make conditions of the classes below alone."""

    def sources(self):
        """The sources whose names are asked, besides that of the Take."""
        return ()

    def ways(self):
        """The ways to the elders whose lives are asked."""
        return ()

    def mirrored(self):
        """The condition with the letters f and m exchanged."""
        return self


class Number(Condition):
    """The child is the n-th of its kind; 4 stands for the fourth and all later ones."""

    def __init__(self, n):
        if not is_whole(n, 1, 4):
            raise BadCondition("number")
        self.n = n

    def holds(self, case, source):
        return case.number == self.n or self.n == 4 and case.number > 4

    def __eq__(self, other):
        return type(self) is type(other) and self.n == other.n

    def __str__(self):
        return f"number {self.n}"


class Alive(Condition):
    """The elder is somebody and lives."""

    def __init__(self, way):
        if not is_way(way, 1, 3):
            raise BadCondition("way")
        self.way = way

    def holds(self, case, source):
        return case.lives.get(self.way) == "alive"

    def ways(self):
        return (self.way,)

    def mirrored(self):
        return Alive(mirrored_source(self.way))

    def __eq__(self, other):
        return type(self) is type(other) and self.way == other.way

    def __str__(self):
        return f"alive {self.way}"


class Dead(Condition):
    """The elder is somebody and is dead."""

    def __init__(self, way):
        if not is_way(way, 1, 3):
            raise BadCondition("way")
        self.way = way

    def holds(self, case, source):
        return case.lives.get(self.way) == "dead"

    def ways(self):
        return (self.way,)

    def mirrored(self):
        return Dead(mirrored_source(self.way))

    def __eq__(self, other):
        return type(self) is type(other) and self.way == other.way

    def __str__(self):
        return f"dead {self.way}"


class Unborne(Condition):
    """No living child of the couple bears the name."""

    def holds(self, case, source):
        return case.names[source] not in case.borne

    def __eq__(self, other):
        return type(self) is type(other)

    def __str__(self):
        return "unborne"


class Never(Condition):
    """No child of the couple, dead or living, has had the name."""

    def holds(self, case, source):
        return case.names[source] not in case.ever

    def __eq__(self, other):
        return type(self) is type(other)

    def __str__(self):
        return "never"


class Unlike(Condition):
    """Both sources lead to somebody, and the names there are unlike."""

    def __init__(self, one, other):
        if not is_source(one) or not is_source(other):
            raise BadCondition("source")
        self.one = one
        self.other = other

    def holds(self, case, source):
        one, other = case.names.get(self.one), case.names.get(self.other)
        return one is not None and other is not None and one != other

    def sources(self):
        return (self.one, self.other)

    def mirrored(self):
        return Unlike(mirrored_source(self.one), mirrored_source(self.other))

    def __eq__(self, other):
        return type(self) is type(other) and self.one == other.one and self.other == other.other

    def __str__(self):
        return f"unlike {self.one} {self.other}"


class Take:
    """The child takes the name at the source, if all conditions hold."""

    MANNER = "take"

    def __init__(self, source, *conditions):
        if not is_source(source):
            raise BadClause(0, "source")
        if len(conditions) > MOST_CONDITIONS:
            raise BadClause(0, "many")
        for index, condition in enumerate(conditions):
            if not isinstance(condition, Condition):
                raise BadClause(index, "condition")
        self.source = source
        self.conditions = conditions

    def passed_over(self, case):
        """Why the clause is passed over: "nobody", the index of a condition, or None."""
        if case.names.get(self.source) is None:
            return "nobody"
        for index, condition in enumerate(self.conditions):
            if not condition.holds(case, self.source):
                return index
        return None

    def sources(self):
        """All sources whose names the clause reads."""
        found = [self.source]
        for condition in self.conditions:
            found.extend(condition.sources())
        return tuple(found)

    def ways(self):
        """All ways to elders whose lives the clause asks."""
        found = []
        for condition in self.conditions:
            found.extend(condition.ways())
        return tuple(found)

    def counts_kind(self):
        """Whether it asks how many children of the kind were born ahead."""
        return any([isinstance(condition, Number) for condition in self.conditions])

    def counts_children(self):
        """Whether it asks for names of the couple's children."""
        return any([isinstance(condition, (Unborne, Never)) for condition in self.conditions])

    def counts_living(self):
        """Whether it asks for names of the couple's living children."""
        return any([isinstance(condition, Unborne) for condition in self.conditions])

    def mirrored(self):
        """The clause with the letters f and m exchanged."""
        conditions = [condition.mirrored() for condition in self.conditions]
        return Take(mirrored_source(self.source), *conditions)

    def __eq__(self, other):
        return type(self) is type(other) and self.source == other.source and self.conditions == other.conditions

    def __str__(self):
        if not self.conditions:
            return f"take {self.source}"
        return f"take {self.source} if {listed(self.conditions)}"


class Free:
    """The parents choose the name; bars tell which names they may not choose."""

    MANNER = "free"

    def __init__(self, *bars):
        if len(bars) > MOST_CONDITIONS:
            raise BadClause(0, "many")
        for index, bar in enumerate(bars):
            if not is_bar(bar):
                raise BadClause(index, "bar")
        self.bars = bars

    def barred(self, case, name):
        """The index of the first bar that bars the name, or None."""
        words = {"living": case.borne, "ever": case.ever}
        for index, bar in enumerate(self.bars):
            if bar in words:
                if name in words[bar]:
                    return index
            elif case.names.get(bar) is not None and case.names[bar] == name:
                return index
        return None

    def sources(self):
        """The sources among the bars."""
        return tuple([bar for bar in self.bars if bar not in BAR_WORDS])

    def ways(self):
        """A Free asks no lives."""
        return ()

    def counts_kind(self):
        """A Free never asks how many children were born ahead."""
        return False

    def counts_children(self):
        """Whether it bars names of the couple's children."""
        return any([word in self.bars for word in BAR_WORDS])

    def counts_living(self):
        """Whether it bars names of the couple's living children."""
        return "living" in self.bars

    def mirrored(self):
        """The clause with the letters f and m exchanged in its sources."""
        bars = [bar if bar in BAR_WORDS else mirrored_source(bar) for bar in self.bars]
        return Free(*bars)

    def __eq__(self, other):
        return type(self) is type(other) and self.bars == other.bars

    def __str__(self):
        if not self.bars:
            return "free"
        return f"free not {listed(self.bars)}"


def reads_beyond(clause, width):
    """Whether the clause reads a house name not below the width."""
    beyond = [source for source in HOUSE_SOURCES if int(source[2]) >= width]
    return any([source in beyond for source in clause.sources()])
