"""A walk through the rows of a record that names each child by a custom."""

from namesakes.clauses import Case
from namesakes.errors import BadChoice
from namesakes.records import KINDS, WAYS


class Walk:
    """The names that stand behind the rows gone so far; it changes row by row."""

    def __init__(self, custom):
        self.custom = custom
        # Those of the persons who were born.
        self.parents = {}
        self.dead = {}
        self.givens = {}
        self.first_houses = {}
        self.houses = {}
        self.clause_numbers = {}
        self.passed = {}
        self.frees = {}
        # By couples: the children in the order of births, how many there are of
        # each kind, and the names of all and of the living ones. These are kept,
        # as a couple of a long record may have thousands of children.
        self.children = {}
        self.numbers = {}
        self.ever = {}
        self.borne = {}

    def go(self, row):
        """Go on by one row; raise BadChoice for a choice that counts and is barred."""
        if row[0] == "comes":
            self._bring(row[1], row[3], row[4])
        elif row[0] == "weds":
            self._wed(row[1], row[2])
        elif row[0] == "born":
            case = self.case_of(row[1], row[2], row[3])
            custom = self.custom_of_child(row[1], row[2], row[3])
            named = custom(case)
            name = named.name
            if name is None:
                name = row[5]
                bar = custom.barred(case, name)
                if bar is not None:
                    raise BadChoice(row[4], name, bar)
            self._bear(row, named, name)
        else:
            self._bury(row[1])

    def custom_of_child(self, father, mother, kind):
        """The custom that names a child of this kind of the couple; its house rules are those of all."""
        return self.custom

    def case_of(self, father, mother, kind):
        """The Case of a child of this kind born to this couple now."""
        elders = self._elders_of_child(father, mother)
        names = {way: self.givens[elder] for way, elder in elders.items()}
        for letter, parent in (("f", father), ("m", mother)):
            for place, name in enumerate(self.houses[parent]):
                names[f"{letter}.{place}"] = name
        lives = {way: "dead" if elder in self.dead else "alive" for way, elder in elders.items()}
        couple = (father, mother)
        return Case(kind, 1 + self.numbers[couple][kind], names, lives, self.borne[couple], self.ever[couple])

    def _elders_of_child(self, father, mother):
        """The elders of a child of these two by the ways that lead to somebody."""
        elders = {"f": father, "m": mother}
        for way in WAYS:
            below = elders.get(way[:-1])
            if below in self.parents:
                elders[way] = self.parents[below][0 if way[-1] == "f" else 1]
        return elders

    def _bring(self, label, given, house):
        self.givens[label] = given
        self.first_houses[label] = house
        self.houses[label] = house
        self.clause_numbers[label] = None
        self.passed[label] = ()
        self.frees[label] = False

    def _wed(self, father, mother):
        house, mate = self.houses[father], self.houses[mother]
        self.houses[father] = self.custom.house_at_wedding("s", house, mate)
        self.houses[mother] = self.custom.house_at_wedding("d", mate, house)
        self.children[father, mother] = []
        self.numbers[father, mother] = {kind: 0 for kind in KINDS}
        self.ever[father, mother] = []
        self.borne[father, mother] = []

    def _bear(self, row, named, name):
        father, mother, label = row[1], row[2], row[4]
        house = self.custom.house_at_birth(
            self.houses[father], self.houses[mother], self.givens[father], self.givens[mother]
        )
        self._bring(label, name, house)
        self.parents[label] = (father, mother)
        self.children[father, mother].append(label)
        self.numbers[father, mother][row[3]] += 1
        self.ever[father, mother].append(name)
        self.borne[father, mother].append(name)
        self.clause_numbers[label] = named.index
        self.passed[label] = named.passed
        self.frees[label] = named.name is None

    def _bury(self, label):
        self.dead[label] = True
        if label in self.parents:
            couple = self.parents[label]
            self.borne[couple] = [self.givens[child] for child in self.children[couple] if child not in self.dead]
