"""Fresh couples: what births and deaths of children of a couple of strangers can lead to."""

from namesakes.clauses import Case
from namesakes.fresh import places_of
from namesakes.patterns import numbered
from namesakes.reads import reads_of
from namesakes.records import KINDS, PARENT_KIND
from namesakes.states import MOST_NUMBER, NEVER_BORNE, NOW_BORNE, ONCE_BORNE


class FreshReads:
    """What a custom with ways reads of persons and of couples."""

    def __init__(self, custom):
        self.custom = custom
        self.kind_places = {kind: places_of(custom, kind) for kind in KINDS}
        self.numbered = reads_of(custom).numbered
        takes = custom.sons[:-1] + custom.daughters[:-1]
        self.counted = [take.source for take in takes if take.counts_children()]


class Situation:
    """What counts of the children of a couple so far, and how it comes to that.

    `marks` tells of each counted class whether a child has had it or a living
    one has it. `ahead` is the situation ahead of the last deed, None at first.
    """

    def __init__(self, sons, daughters, marks, deed, ahead):
        self.sons = sons
        self.daughters = daughters
        self.marks = marks
        self.deed = deed
        self.ahead = ahead
        # Pairs (deed, key of the situation behind it), once they are worked out.
        self.deeds = []

    def key(self):
        return (self.sons, self.daughters, self.marks)


class FreshCouple:
    """A father and a mother of these entries, who share no name, and all their situations."""

    def __init__(self, reads, father, mother):
        self.reads = reads
        brought = _apart(father, mother)
        sources = [f"{letter}{place}" for letter in PARENT_KIND for place in reads.kind_places[PARENT_KIND[letter]]]
        self.names = dict(zip(sources, brought))
        self.classes = 1 + max([number for number in brought if number is not None])
        counted = [self.names[source] for source in reads.counted if self.names[source] is not None]
        self.counted = sorted(set(counted))
        self.situations = {}
        self._meet_all()

    def _meet_all(self):
        first = Situation(0, 0, (NEVER_BORNE,) * len(self.counted), None, None)
        self.situations[first.key()] = first
        waiting = [first]
        at = 0
        while at < len(waiting):
            situation = waiting[at]
            at += 1
            for behind in self._behind(situation):
                situation.deeds.append((behind.deed, behind.key()))
                if behind.key() not in self.situations:
                    self.situations[behind.key()] = behind
                    waiting.append(behind)

    def _behind(self, situation):
        """The situations behind one more birth, or behind the deaths of all living bearers of a class."""
        found = [self._birth(situation, kind) for kind in KINDS]
        for place, mark in enumerate(situation.marks):
            if mark == NOW_BORNE:
                marks = _with_mark(situation.marks, place, ONCE_BORNE)
                deed = ("bearers", self.counted[place])
                found.append(Situation(situation.sons, situation.daughters, marks, deed, situation))
        return found

    def _birth(self, situation, kind):
        name = self.name_of(situation, kind)
        born = {"s": situation.sons, "d": situation.daughters}
        if kind in self.reads.numbered:
            born[kind] = min(MOST_NUMBER, born[kind] + 1)
        marks = situation.marks
        if name in self.counted:
            marks = _with_mark(marks, self.counted.index(name), NOW_BORNE)
        return Situation(born["s"], born["d"], marks, ("born", kind, name), situation)

    def name_of(self, situation, kind):
        """The class that the next child of this kind gets, or None for a name that is chosen."""
        born = situation.sons if kind == "s" else situation.daughters
        borne = [number for number, mark in zip(self.counted, situation.marks) if mark == NOW_BORNE]
        ever = [number for number, mark in zip(self.counted, situation.marks) if mark != NEVER_BORNE]
        return self.reads.custom(Case(kind, born + 1, self.names, {}, borne, ever)).name

    def births(self):
        """By the pairs (kind, name) of all births that can be: a situation of few deeds in which they can."""
        found = {}
        for key in self.situations:
            situation = self.situations[key]
            for deed, _ in situation.deeds:
                if deed[0] == "born":
                    found.setdefault((deed[1], deed[2]), situation)
        return found

    def child_numbers(self, kind, name):
        """At each place of such a child the couple's class, or the next number for a chosen name."""
        own = self.classes if name is None else name
        return [own if place == "" else self.names[place] for place in self.reads.kind_places[kind]]

    def child_entries(self, kind, name):
        """The entries of such a child."""
        return tuple(numbered(self.child_numbers(kind, name)))

    def carried(self, kind, name, number):
        """The class of such a child that is this class of the couple, or None."""
        numbers = self.child_numbers(kind, name)
        return self.child_entries(kind, name)[numbers.index(number)] if number in numbers else None


def _apart(father, mother):
    """The entries of both side by side, none of one alike to one of the other."""
    classes = 1 + max([entry for entry in father if entry is not None])
    return list(father) + [None if entry is None else classes + entry for entry in mother]


def _with_mark(marks, place, mark):
    return marks[:place] + (mark,) + marks[place + 1:]
