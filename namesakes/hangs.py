"""Hangs: which rows of a record the names of a row hang on, and in which orders rows can stand."""

from namesakes.errors import BadOrder, BadWidth, NoRow
from namesakes.naming import Naming
from namesakes.records import KINDS, Record, is_sequence, is_whole


class Asking:
    """What the clauses of a kind ask of rows ahead, those never reached, too."""

    def __init__(self, custom, kind):
        clauses = custom.clauses(kind)
        self.asked_ways = [way for clause in clauses for way in clause.ways()]
        self.living = any([clause.counts_living() for clause in clauses])
        # The kinds of which earlier children count.
        self.counted = ()
        if any([clause.counts_children() for clause in clauses]):
            self.counted = KINDS
        elif any([clause.counts_kind() for clause in clauses]):
            self.counted = (kind,)


def _named_in(row):
    """The persons whom the row names."""
    if row[0] == "comes":
        return ()
    return (row[1],) if row[0] == "dies" else (row[1], row[2])


class Siblings:
    """The births and deaths of the children of a couple, by their rows in order."""

    def __init__(self):
        self.born_rows = {kind: [] for kind in KINDS}
        self.death_rows = []


class Hanging:
    """On which earlier rows each row of a record hangs under a custom."""

    def __init__(self, custom, record):
        if record.width != custom.width:
            raise BadWidth(record.width)
        self._told = record
        self._asking = {kind: Asking(custom, kind) for kind in KINDS}
        # By persons: the weds and dies rows and the births that name them, their
        # death, and the births at which it is asked whether they live.
        self._turns = {label: [] for label in record.persons}
        self._births = {label: [] for label in record.persons}
        self._deaths = {}
        self._asked = {label: [] for label in record.persons}
        self._siblings = {couple: Siblings() for couple in record.weddings}
        for index, row in enumerate(record.rows):
            self._put_in(index, row)

    def _put_in(self, index, row):
        for label in _named_in(row):
            if row[0] == "born":
                self._births[label].append(index)
            else:
                self._turns[label].append(index)
        if row[0] == "dies":
            self._deaths[row[1]] = index
            if self._told.father_of(row[1]) is not None:
                self._siblings_of(row[1]).death_rows.append(index)
        if row[0] == "born":
            self._siblings[row[1], row[2]].born_rows[row[3]].append(index)
            for way in self._asking[row[3]].asked_ways:
                elder = self._told.elder_of(row[4], way)
                if elder is not None:
                    self._asked[elder].append(index)

    def _siblings_of(self, label):
        return self._siblings[self._told.father_of(label), self._told.mother_of(label)]

    def on(self, index):
        """The indices of the rows on which this row hangs, ascending."""
        self._check_row(index)
        return tuple(sorted(set(self._ahead(index))))

    def _check_row(self, index):
        if not is_whole(index, 0, len(self._told.rows) - 1):
            raise NoRow(index)

    def _ahead(self, index):
        """The indices of the rows on which this row hangs, in any order and perhaps several times."""
        row = self._told.rows[index]
        found = []
        for label in _named_in(row):
            found.append(self._told.row_of(label))
            found.extend(self._turns[label])
            # Two births alone do not hang together by those whom they name.
            if row[0] != "born":
                found.extend(self._births[label])
        if row[0] == "weds":
            found.extend(self._deaths_of_mates(row[1], row[2]))
            found.extend(self._deaths_of_mates(row[2], row[1]))
        elif row[0] == "born":
            found.extend(self._siblings_counted(row))
            found.extend(self._deaths_asked(row))
        elif row[0] == "dies":
            found.extend(self._births_asking(row[1]))
        return [other for other in found if other < index]

    def _deaths_of_mates(self, label, mate):
        """The deaths of those with whom this person was wed ahead of this mate."""
        mates = self._told.mates_of(label)
        return [self._deaths[other] for other in mates[:mates.index(mate)]]

    def _siblings_counted(self, row):
        """The births of the couple's children that count for this one, or for which it counts."""
        births = self._siblings[row[1], row[2]].born_rows
        found = []
        for kind in KINDS:
            if kind in self._asking[row[3]].counted or row[3] in self._asking[kind].counted:
                found.extend(births[kind])
        return found

    def _deaths_asked(self, row):
        """The deaths for which the clauses of this child's kind ask."""
        asking = self._asking[row[3]]
        elders = [self._told.elder_of(row[4], way) for way in asking.asked_ways]
        found = [self._deaths[elder] for elder in elders if elder in self._deaths]
        # The child's own death is behind its birth.
        return found + self._siblings[row[1], row[2]].death_rows if asking.living else found

    def _births_asking(self, label):
        """The births whose clauses ask whether this person lives."""
        found = list(self._asked[label])
        if self._told.father_of(label) is not None:
            births = self._siblings_of(label).born_rows
            # The person's own birth is one on which the death hangs anyhow.
            for kind in KINDS:
                if self._asking[kind].living:
                    found.extend(births[kind])
        return found

    def cone(self, index):
        """The indices of this row and of all rows on which one of the cone hangs, ascending."""
        self._check_row(index)
        found = {index: True}
        waiting = [index]
        while waiting:
            for other in self._ahead(waiting.pop()):
                if other not in found:
                    found[other] = True
                    waiting.append(other)
        return tuple(sorted(found))

    def order_fault(self, order):
        """Why the rows cannot stand in this order: (position, what), or None."""
        if not is_sequence(order):
            return (0, "order")
        placed = {}
        for position, index in enumerate(order):
            if not is_whole(index, 0, len(self._told.rows) - 1):
                return (position, "row")
            if index in placed:
                return (position, "double")
            if not all([other in placed for other in self._ahead(index)]):
                return (position, "early")
            placed[index] = True
        return None

    def reordered(self, order):
        """The record of these rows in this order."""
        fault = self.order_fault(order)
        if fault is not None:
            raise BadOrder(fault[0], fault[1])
        return Record(self._told.width, [self._told.rows[index] for index in order])


def named_alone(custom, record, label):
    """(given name, first house names, clause, passed) of a person, from the rows of its cone alone."""
    hanging = Hanging(custom, record)
    cone = hanging.cone(record.row_of(label))
    naming = Naming(custom, Record(record.width, [record.rows[index] for index in cone]))
    return (
        naming.given_of(label), naming.first_house_of(label), naming.clause_of(label), naming.passed_of(label)
    )
