"""Fresh persons: how each state of a person of fresh records comes with few rows."""

from heapq import heappop, heappush

from namesakes.freshcouples import FreshCouple, FreshReads
from namesakes.records import KINDS, OTHER_KIND


class FreshPerson:
    """A kind and entries, and the couple whose birth brings them, None for a founder.

    `birth` is the situation of the couple ahead of the birth and the name that is given.
    """

    def __init__(self, kind, entries, couple, birth, father, mother, rows):
        self.kind = kind
        self.entries = entries
        self.couple = couple
        self.birth = birth
        self.father = father
        self.mother = mother
        self.rows = rows


class FreshWorld:
    """All states of persons of fresh records, and all couples of two of them."""

    def __init__(self, custom):
        self.reads = FreshReads(custom)
        self.persons = {kind: [] for kind in KINDS}
        self.couples = []
        # By state: a person whose name was chosen, one that comes with few rows.
        self.free = {}
        self._settled = {}
        self._met = []
        self._queue = []
        for kind in KINDS:
            entries = (0,) + (None,) * (len(self.reads.kind_places[kind]) - 1)
            self._meet(FreshPerson(kind, entries, None, None, None, None, 1))
        while self._queue:
            self._settle()

    def person(self, kind, entries):
        """The person with these entries, or None if there can be none."""
        return self._settled.get((kind, entries))

    def _meet(self, person):
        heappush(self._queue, (person.rows, len(self._met)))
        self._met.append(person)

    def _settle(self):
        _, number = heappop(self._queue)
        person = self._met[number]
        if (person.kind, person.entries) in self._settled:
            return
        self._settled[person.kind, person.entries] = person
        self.persons[person.kind].append(person)
        for mate in list(self.persons[OTHER_KIND[person.kind]]):
            if person.kind == "s":
                self._wed(person, mate)
            else:
                self._wed(mate, person)

    def _wed(self, father, mother):
        couple = FreshCouple(self.reads, father.entries, mother.entries)
        self.couples.append((father, mother, couple))
        for key in couple.situations:
            situation = couple.situations[key]
            rows = father.rows + mother.rows + 2 + len(deeds_to(situation))
            for kind in KINDS:
                name = couple.name_of(situation, kind)
                entries = couple.child_entries(kind, name)
                person = FreshPerson(kind, entries, couple, (situation, name), father, mother, rows)
                if name is None:
                    self._keep_free(person)
                if (kind, entries) not in self._settled:
                    self._meet(person)

    def _keep_free(self, person):
        key = (person.kind, person.entries)
        if key not in self.free or person.rows < self.free[key].rows:
            self.free[key] = person


def deeds_to(situation):
    """The deeds from a wedding to this situation."""
    deeds = []
    while situation.ahead is not None:
        deeds.append(situation.deed)
        situation = situation.ahead
    deeds.reverse()
    return deeds
