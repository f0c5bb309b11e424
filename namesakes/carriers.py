"""Carriers: persons of fresh records with one of the names that they bring.

A name comes down by one line alone, so whether it is borne at the end of a line hangs
on nothing but the persons of the line and on their places.
"""

from namesakes.errors import TooWide
from namesakes.freshpersons import FreshWorld, deeds_to
from namesakes.machines import Machine
from namesakes.records import KINDS
from namesakes.rooms import least_rooms

MOST_ROOMS = 20000


class Handing:
    """How a parent hands a name on to a child: by a couple with a mate, and the situation ahead of the birth.

    `rows` counts those of the mate, of the wedding, of the deeds and of the birth.
    """

    def __init__(self, mate, kind, situation):
        self.mate = mate
        self.kind = kind
        self.situation = situation
        self.rows = mate.rows + 2 + len(deeds_to(situation))


class Carriers:
    """All carriers (kind, entries, class) of a custom, each by a number, and their children."""

    def __init__(self, custom):
        self.world = FreshWorld(custom)
        self.members = []
        self._numbers = {}
        for kind in KINDS:
            for person in self.world.persons[kind]:
                for number in classes_of(person.entries):
                    self._numbers[kind, person.entries, number] = len(self.members)
                    self.members.append((kind, person.entries, number))
        # For each carrier and kind: its children, and how the name is handed on to each.
        self._children = [{kind: {} for kind in KINDS} for _ in self.members]
        for father, mother, couple in self.world.couples:
            self._put_children(father, mother, couple)

    def number_of(self, kind, entries, number):
        return self._numbers[kind, entries, number]

    def parent_at(self, father, mother, number):
        """The carrier among the two parents of a class of their couple."""
        his = len(classes_of(father.entries))
        if number < his:
            return self.number_of("s", father.entries, number)
        return self.number_of("d", mother.entries, number - his)

    def child_at(self, couple, kind, name, number):
        """The carrier that such a child of the couple is of a class of the couple, or None."""
        entry = couple.carried(kind, name, number)
        return None if entry is None else self.number_of(kind, couple.child_entries(kind, name), entry)

    def _put_children(self, father, mother, couple):
        births = couple.births()
        for number in range(couple.classes):
            parent = self.parent_at(father, mother, number)
            mate = mother if self.members[parent][0] == "s" else father
            for kind, name in births:
                child = self.child_at(couple, kind, name, number)
                if child is not None:
                    self._put_handing(parent, child, Handing(mate, kind, births[kind, name]))

    def _put_handing(self, parent, child, handing):
        known = self._children[parent][handing.kind].get(child)
        if known is None or handing.rows < known.rows:
            self._children[parent][handing.kind][child] = handing

    def handings(self, carrier, kind):
        """By the carriers that children of this kind of this one can be: how the name is handed on."""
        return dict(self._children[carrier][kind])

    def is_bearer(self, carrier):
        """Whether the name is the person's own."""
        return self.members[carrier][2] == 0

    def children_of(self, carriers, kind):
        """The carriers that children of this kind of one of these can be, ascending."""
        return tuple(sorted({child for carrier in carriers for child in self._children[carrier][kind]}))


def classes_of(entries):
    """The class numbers of a person's entries, ascending."""
    return tuple(range(1 + max([entry for entry in entries if entry is not None])))


def line_machine(carriers, is_end, sons, daughters):
    """The machine whose words begin with s and one of the first carriers, or with d and one of the second.

    They run down the line and end in a bearer; the empty word is let if `is_end` is true.
    """
    lots = [None]
    numbers = {}
    rooms = []
    while len(rooms) < len(lots):
        lot = lots[len(rooms)]
        end = is_end
        behind = (sons, daughters)
        if lot is not None:
            end = any([carriers.is_bearer(carrier) for carrier in lot])
            behind = (carriers.children_of(lot, "s"), carriers.children_of(lot, "d"))
        for further in behind:
            if further not in numbers:
                numbers[further] = len(lots)
                lots.append(further)
        if len(lots) > MOST_ROOMS:
            raise TooWide("rooms")
        rooms.append((end, numbers[behind[0]], numbers[behind[1]]))
    return Machine(least_rooms(rooms))
