"""Roots: from whom each name of a record came down, holder by holder."""

from namesakes.errors import BadWidth, NoPlace, NoRoot
from namesakes.records import is_whole
from namesakes.walk import Walk

GIVEN = "given"


class Descent:
    """The holders of all names so far, each by a number; it changes row by row.

    `came_from` has for each holder the number of the one from whom it got its name,
    or None for a root; `last` the last holder of each person and place.
    """

    def __init__(self, custom):
        self.custom = custom
        self.walk = Walk(custom)
        self.holders = []
        self.came_from = []
        self.roots = []
        self.names = []
        self.sorts = []
        self.last = {}

    def go(self, index, row):
        self.walk.go(row)
        if row[0] == "comes":
            self._hold_founder(index, row)
        elif row[0] == "weds":
            self._hold_wedding(index, row[1], row[2])
        elif row[0] == "born":
            self._hold_birth(index, row)

    def _hold(self, holder, before, sort):
        """Take in a holder; `sort` tells of a root that of its person."""
        number = len(self.holders)
        self.holders.append(holder)
        self.came_from.append(before)
        self.roots.append(number if before is None else self.roots[before])
        self.sorts.append(sort)
        _, label, what = holder
        name = self.walk.givens[label] if what == GIVEN else self.walk.houses[label][what]
        self.names.append(name)
        self.last[label, what] = number

    def _hold_founder(self, index, row):
        for what in (GIVEN,) + tuple(range(self.custom.width)):
            self._hold((index, row[1], what), None, "founder")

    def _hold_wedding(self, index, father, mother):
        # Both sides are as they are ahead of the wedding.
        before = []
        for kind, label, mate in (("s", father, mother), ("d", mother, father)):
            for place, rule in enumerate(self.custom.wedding_rules(kind)):
                ahead = self.last[label, place] if rule == "own" else self.last[mate, rule]
                before.append(((index, label, place), ahead))
        for holder, ahead in before:
            self._hold(holder, ahead, None)

    def _hold_birth(self, index, row):
        father, mother, kind, label = row[1:5]
        parents = {"f": father, "m": mother}
        if self.walk.frees[label]:
            self._hold((index, label, GIVEN), None, "free")
        else:
            source = self.custom.clauses(kind)[self.walk.clause_numbers[label]].source
            self._hold((index, label, GIVEN), self._at_source(parents, source), None)
        for place, (first, second) in enumerate(self.custom.house):
            if first == GIVEN:
                before = self.last[parents[second], GIVEN]
            else:
                before = self.last[parents[first], second]
            self._hold((index, label, place), before, None)

    def _at_source(self, parents, source):
        """The last holder of the name at a source, which leads to somebody."""
        if "." in source:
            return self.last[parents[source[0]], int(source[2])]
        elder = parents[source[0]]
        for letter in source[1:]:
            elder = self.walk.parents[elder][0 if letter == "f" else 1]
        return self.last[elder, GIVEN]


class Roots:
    """Where each name of a record came from."""

    def __init__(self, custom, record):
        if record.width != custom.width:
            raise BadWidth(record.width)
        descent = Descent(custom)
        for index, row in enumerate(record.rows):
            descent.go(index, row)
        self._told = record
        self._descent = descent
        firsts = [number for number, before in enumerate(descent.came_from) if before is None]
        self.roots = tuple([self._root_of(number) for number in firsts])
        self.are_unlike = len({descent.names[number] for number in firsts}) == len(firsts)

    def _root_of(self, number):
        """The root of a holder, as it is told."""
        first = self._descent.roots[number]
        _, label, what = self._descent.holders[first]
        return (self._descent.sorts[first], label, what)

    def _last(self, label, what):
        """The number of the last holder of a person's place."""
        self._told.check_person(label)
        if not (isinstance(what, str) and what == GIVEN) and not is_whole(what, 0, self._told.width - 1):
            raise NoPlace(what)
        return self._descent.last[label, what]

    def chain(self, label, what="given"):
        """The holders from the last one of this name back to its root."""
        number = self._last(label, what)
        found = []
        while number is not None:
            found.append(self._descent.holders[number])
            number = self._descent.came_from[number]
        return tuple(found)

    def root(self, label, what="given"):
        """(sort, label, what) of the one from whom this name came."""
        return self._root_of(self._last(label, what))

    def bearers(self, root):
        """The persons whose given name has this root."""
        # True and False are equal to places, but no places.
        if not isinstance(root, tuple) or root not in self.roots or isinstance(root[2], bool):
            raise NoRoot(root)
        return tuple([label for label in self._told.persons if self.root(label) == root])
