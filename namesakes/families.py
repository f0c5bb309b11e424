"""Results of what is asked of all families: records, and papers that show that there is none."""


class Family:
    """A record in which it happens to the persons one and other."""

    def __init__(self, record, one, other):
        self.record = record
        self.one = one
        self.other = other


class NeverAlike:
    """A paper: two such persons are never namesakes."""

    def __init__(self, table, followed):
        self.table = table
        self.followed = followed


class Most:
    """The greatest number of namesakes among the living children of a couple."""

    def __init__(self, number, record, bearers, table, prices):
        self.number = number
        self.record = record
        self.bearers = bearers
        self.table = table
        self.prices = prices


class Endless:
    """There is no greatest number: the ring of deeds can be said again and again."""

    def __init__(self, record, father, mother, bearer, ring):
        self.record = record
        self.father = father
        self.mother = mother
        self.bearer = bearer
        self.ring = ring


class Always:
    """A paper: each child that is asked has the name of its elder."""

    def __init__(self, table, counted):
        self.table = table
        self.counted = counted


class ClauseUse:
    """The clauses that name nobody, and records for the others."""

    def __init__(self, table, unused, used):
        self.table = table
        self.unused = unused
        self.used = used
