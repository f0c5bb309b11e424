"""Generations of a line: the names of its persons one after another, each told by its origin."""

from namesakes.clauses import Case
from namesakes.patterns import numbered
from namesakes.records import OTHER_KIND

OWN = ("",)
ELDERS = ("f", "m", "ff", "fm", "mf", "mm")


class Generations:
    """The origins of the names of persons 1, 2, .. so far; it grows person by person.

    A person is a dict from the places to origins, or None for nobody.
    """

    def __init__(self, custom, elders):
        self.custom = custom
        # The places of which a newcomer brings names.
        self.brought = OWN + (ELDERS if elders else ())
        self.houses = tuple([f".{place}" for place in range(custom.width)])
        # Entry n is that of person n.
        self.origins = [None]
        self.clause_numbers = [None]
        self._names = [None]
        father = self._newcomer(("first",), "f")
        mother = self._newcomer(("first",), "m")
        self._couple = self._wed("s", father, mother)

    def _newcomer(self, origin, before):
        """A person who brings names of this origin; `before` stands ahead of each place."""
        person = {place: None for place in OWN + ELDERS + self.houses}
        for place in self.brought + self.houses:
            person[place] = origin + (f"{before}{place}",)
        return person

    def _house(self, person):
        return tuple([person[place] for place in self.houses])

    def _with_house(self, person, house):
        behind = dict(person)
        for place, name in zip(self.houses, house):
            behind[place] = name
        return behind

    def _wed(self, kind, one, other):
        """The couple of a person of this kind and a mate, the father first."""
        house, mate = self._house(one), self._house(other)
        behind = self._with_house(one, self.custom.house_at_wedding(kind, house, mate))
        mate_behind = self._with_house(other, self.custom.house_at_wedding(OTHER_KIND[kind], mate, house))
        return (behind, mate_behind) if kind == "s" else (mate_behind, behind)

    def go_on(self, step):
        """The next person by this step is born and weds the next mate."""
        kind, number = step
        n = len(self.origins)
        named, name = self._child(kind, number, n)
        person = self._newborn(name)
        self.origins.append(name)
        self.clause_numbers.append(named.index)
        self._names.append(tuple([person[place] for place in OWN + ELDERS + self.houses]))
        self._couple = self._wed(kind, person, self._newcomer(("mate", n), ""))

    def _child(self, kind, number, n):
        """How this child of the last couple is named, and its name; n stands in that of a name chosen freely."""
        names = {}
        for letter, parent in zip("fm", self._couple):
            for place in parent:
                names[f"{letter}{place}"] = parent[place]
        borne = []
        named = None
        for count in range(number):
            named = self.custom(Case(kind, count + 1, names, {}, borne, borne))
            # Names chosen for elder siblings are unlike all others, too.
            chosen = ("own", n) if count == number - 1 else ("sibling", count)
            borne.append(chosen if named.name is None else named.name)
        return named, borne[-1]

    def _newborn(self, name):
        """The child of the last couple that has this name."""
        father, mother = self._couple
        person = {"": name, "f": father[""], "m": mother[""]}
        for way in ("ff", "fm"):
            person[way] = father[way[1:]]
        for way in ("mf", "mm"):
            person[way] = mother[way[1:]]
        house = self.custom.house_at_birth(self._house(father), self._house(mother), father[""], mother[""])
        return self._with_house(person, house)

    def pattern_at(self, n):
        """Which names of person n, ahead of the wedding, are alike."""
        return tuple(numbered(self._names[n]))

    def names_at(self, n):
        """The unlike names of person n, ahead of the wedding, in the order of their first places."""
        return list({name: True for name in self._names[n] if name is not None})

    def most_names(self):
        """How many unlike names a person has at most."""
        return len(OWN + ELDERS + self.houses)
