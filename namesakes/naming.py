"""Naming: a custom names the persons of a record."""

from namesakes.errors import BadChoice, BadWidth, NoCouple
from namesakes.walk import Walk


class Naming:
    """The names of all persons of a record by a custom."""

    def __init__(self, custom, record):
        if record.width != custom.width:
            raise BadWidth(record.width)
        walk = Walk(custom)
        for row in record.rows:
            walk.go(row)
        self.custom = custom
        self.record = record
        self.labels = record.persons
        self._walk = walk

    def given_of(self, label):
        self.record.check_person(label)
        return self._walk.givens[label]

    def first_house_of(self, label):
        """The house names at the coming or birth."""
        self.record.check_person(label)
        return self._walk.first_houses[label]

    def house_of(self, label):
        """The house names at the end of the record."""
        self.record.check_person(label)
        return self._walk.houses[label]

    def full_of(self, label):
        """The house names at the end, and the given name behind them."""
        return self.house_of(label) + (self.given_of(label),)

    def clause_of(self, label):
        """The index of the clause that named the child or left it free, None for a founder."""
        self.record.check_person(label)
        return self._walk.clause_numbers[label]

    def passed_of(self, label):
        """Why each earlier clause was passed over."""
        self.record.check_person(label)
        return self._walk.passed[label]

    def is_free(self, label):
        """Whether this is a child that was left free."""
        self.record.check_person(label)
        return self._walk.frees[label]

    def case_now(self, father, mother, kind):
        """The Case of a further child of this couple, which must be one at the end."""
        return self._walk.case_of(father, mother, kind)

    def __len__(self):
        return len(self.labels)

    def __iter__(self):
        return iter(self.labels)

    def __eq__(self, other):
        return (
            type(self) is type(other)
            and self.labels == other.labels
            and self._walk.givens == other._walk.givens
            and self._walk.first_houses == other._walk.first_houses
            and self._walk.houses == other._walk.houses
            and self._walk.clause_numbers == other._walk.clause_numbers
            and self._walk.passed == other._walk.passed
            and self._walk.frees == other._walk.frees
        )


def fits(custom, record):
    """Whether the record has the custom's width and no barred choice that counts."""
    try:
        Naming(custom, record)
    except (BadWidth, BadChoice):
        return False
    return True


def birth_case(naming, father, mother, kind):
    """The Case of a child born to this couple at the end of the record."""
    record = naming.record
    record.check_person(father)
    record.check_person(mother)
    if record.kind_of(father) != "s" or record.mate_of(father) != mother:
        raise NoCouple(father, mother)
    return naming.case_now(father, mother, kind)
