"""The errors of the package. Each keeps what it is made with as attributes.

No error makes a text of its own: what it is made with may be of every kind,
also something of which no text can be made.
"""


class CustomError(ValueError):
    """All errors of the package stand directly under this one."""


# Records.

class BadRecord(CustomError):
    def __init__(self, index, what):
        self.index = index
        self.what = what


class NoPerson(CustomError):
    def __init__(self, label):
        self.label = label


class BadWay(CustomError):
    def __init__(self, way):
        self.way = way


class NoRow(CustomError):
    def __init__(self, number):
        self.number = number


class BadWidth(CustomError):
    def __init__(self, width):
        self.width = width


class BadText(CustomError):
    def __init__(self, row, what):
        self.row = row
        self.what = what


class BadPairs(CustomError):
    def __init__(self, what):
        self.what = what


# Customs.

class BadCondition(CustomError):
    def __init__(self, what):
        self.what = what


class BadClause(CustomError):
    def __init__(self, index, what):
        self.index = index
        self.what = what


class BadCustom(CustomError):
    def __init__(self, part, index, what):
        self.part = part
        self.index = index
        self.what = what


class BadKind(CustomError):
    def __init__(self, kind):
        self.kind = kind


class TooWide(CustomError):
    def __init__(self, what):
        self.what = what


# Naming.

class BadChoice(CustomError):
    def __init__(self, label, name, bar):
        self.label = label
        self.name = name
        self.bar = bar


class NoCouple(CustomError):
    def __init__(self, father, mother):
        self.father = father
        self.mother = mother


class NoPlace(CustomError):
    def __init__(self, what):
        self.what = what


class NoRoot(CustomError):
    def __init__(self, root):
        self.root = root


class BadOrder(CustomError):
    def __init__(self, position, what):
        self.position = position
        self.what = what


# Patterns.

class BadPattern(CustomError):
    def __init__(self, index, what):
        self.index = index
        self.what = what


class BadNames(CustomError):
    def __init__(self, index, what):
        self.index = index
        self.what = what


class BadPlaces(CustomError):
    def __init__(self, index, what):
        self.index = index
        self.what = what


class BadClass(CustomError):
    def __init__(self, number):
        self.number = number


class BadMatch(CustomError):
    def __init__(self, what):
        self.what = what


class BadCount(CustomError):
    def __init__(self, number):
        self.number = number


class BadIndex(CustomError):
    def __init__(self, index):
        self.index = index


class BadJoining(CustomError):
    def __init__(self, index, what):
        self.index = index
        self.what = what


class NoRenaming(CustomError):
    def __init__(self, place):
        self.place = place


# States, steps and tables.

class BadScope(CustomError):
    def __init__(self, what):
        self.what = what


class BadState(CustomError):
    def __init__(self, what):
        self.what = what


class BadTable(CustomError):
    def __init__(self, index, what):
        self.index = index
        self.what = what


class BadPlay(CustomError):
    def __init__(self, index):
        self.index = index


class NeverComes(CustomError):
    def __init__(self, state):
        self.state = state


class NotUnwed(CustomError):
    def __init__(self, label):
        self.label = label


# Namesakes among siblings and elders.

class BadAsked(CustomError):
    def __init__(self, what):
        self.what = what


class TooLong(CustomError):
    def __init__(self, times):
        self.times = times


# Ways of a name.

class NoWays(CustomError):
    def __init__(self, what):
        self.what = what


class NoState(CustomError):
    def __init__(self, state):
        self.state = state


class BadWord(CustomError):
    def __init__(self, word):
        self.word = word


class BadLength(CustomError):
    def __init__(self, length):
        self.length = length


class BadOrigin(CustomError):
    def __init__(self, origin):
        self.origin = origin


class NotLet(CustomError):
    def __init__(self, one, other=None):
        self.one = one
        self.other = other


class BadNumber(CustomError):
    def __init__(self, number):
        self.number = number


# Lines for ever.

class BadLine(CustomError):
    def __init__(self, index, what):
        self.index = index
        self.what = what


class BadGeneration(CustomError):
    def __init__(self, n):
        self.n = n


class UnlikePlans(CustomError):
    """Two lines of unlike plans were to be compared."""


# Two customs and lands.

class BadPair(CustomError):
    def __init__(self, index, what):
        self.index = index
        self.what = what


class BadLand(CustomError):
    def __init__(self, what):
        self.what = what


class BadSecond(CustomError):
    def __init__(self, index, what):
        self.index = index
        self.what = what


# Smudged pages and mends.

class BadPage(CustomError):
    def __init__(self, index, what):
        self.index = index
        self.what = what


class BadSeen(CustomError):
    def __init__(self, index, what):
        self.index = index
        self.what = what


class BadFilling(CustomError):
    def __init__(self, what):
        self.what = what


class BadNotice(CustomError):
    def __init__(self, what):
        self.what = what


class BadChange(CustomError):
    def __init__(self, index, what):
        self.index = index
        self.what = what


class BadPrices(CustomError):
    def __init__(self, index):
        self.index = index
