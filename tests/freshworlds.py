"""Fresh records for tests, grown row by row by chance; what is told of them is read off plainly.

The path of a name is kept for each person: who bore it on, from the one with whom it
came in down to this person.
"""

import collections

from namesakes.clauses import Alive, Case, Free, Never, Number, Take, Unborne, Unlike
from namesakes.customs import Custom
from namesakes.records import Record
from tests.families import WAYS, label_at

ALIVE = Custom([Take("f", Alive("ff")), Free()], [Free()])
HOUSED = Custom([Take("f.0"), Free()], [Free()], house=[("f", 0)])


class World:
    def __init__(self, custom, rng):
        self.custom = custom
        self.rng = rng
        self.rows = []
        self.kinds, self.parents, self.givens, self.paths, self.lineages = {}, {}, {}, {}, {}
        self.dead, self.mates, self.children = set(), {}, collections.defaultdict(list)
        self.free = set()
        self.times = {}

    def say(self, row):
        self.rows.append(row)
        return len(self.rows)

    def bring(self, label, kind, row):
        self.kinds[label] = kind
        self.times[label] = [self.say(row), 10 ** 9]

    def come(self, kind):
        name = len(self.rows)
        label = label_at(name + 26)
        self.givens[label], self.paths[label], self.lineages[label] = name, (label,), {label}
        self.bring(label, kind, ("comes", label, kind, name, (name,) * self.custom.width))
        return label

    def line_up(self, label, way):
        """The persons from this one up along the way, or None."""
        line = [label]
        for letter in way:
            if label not in self.parents:
                return None
            label = self.parents[label]["fm".index(letter)]
            line.append(label)
        return line

    def bear(self, father, mother, kind):
        name = len(self.rows)
        label = label_at(name + 26)
        self.parents[label] = (father, mother)
        elder = self.children[father, mother]
        lines = {way: self.line_up(label, way) for way in WAYS[1:]}
        names = {way: self.givens[line[-1]] for way, line in lines.items() if line is not None}
        number = 1 + sum(self.kinds[child] == kind for child in elder)
        borne = [self.givens[child] for child in elder if child not in self.dead]
        named = self.custom(Case(kind, number, names, {}, borne, [self.givens[child] for child in elder]))
        self.givens[label], self.paths[label] = name, (label,)
        if named.name is None:
            self.free.add(label)
        else:
            line = lines[self.custom.clauses(kind)[named.index].source]
            self.givens[label] = named.name
            self.paths[label] = self.paths[line[-1]] + tuple(reversed(line[:-1]))
        self.lineages[label] = {label} | self.lineages[father] | self.lineages[mother]
        elder.append(label)
        self.bring(label, kind, ("born", father, mother, kind, label, name))
        return label

    def wed(self, one, other):
        father, mother = (one, other) if self.kinds[one] == "s" else (other, one)
        self.mates[father], self.mates[mother] = mother, father
        self.say(("weds", father, mother))

    def die(self, label):
        self.dead.add(label)
        self.times[label][1] = self.say(("dies", label))
        if label in self.mates:
            del self.mates[self.mates.pop(label)]

    def grow(self):
        """One more row, or two for a wedding with a stranger."""
        sort = self.rng.random()
        living = [label for label in self.kinds if label not in self.dead]
        unwed = [label for label in living if label not in self.mates]
        couples = [(father, self.mates[father]) for father in living if self.kinds[father] == "s" and father in self.mates]
        if sort < 0.5 and couples:
            self.bear(*self.rng.choice(couples[-4:]), self.rng.choice("sd"))
        elif sort < 0.8 and unwed:
            again = [label for pair in self.children for label in pair if label in unwed]
            one = self.rng.choice(again if again and self.rng.random() < 0.5 else [label for label in unwed if label in self.parents] or unwed)
            strangers = [label for label in unwed if self.kinds[label] != self.kinds[one] and not self.lineages[label] & self.lineages[one]]
            other = self.rng.choice(strangers) if strangers and self.rng.random() < 0.5 else self.come("d" if self.kinds[one] == "s" else "s")
            self.wed(one, other)
        elif sort < 0.95 and living:
            self.die(self.rng.choice(list(self.mates) if self.mates and self.rng.random() < 0.5 else living))
        else:
            self.come(self.rng.choice("sd"))

    def record(self):
        return Record(self.custom.width, self.rows)

    def word(self, persons):
        return "".join(self.kinds[person] for person in persons)

    def origins(self, label):
        found = [("any", self.kinds[label])]
        if label not in self.parents:
            found.append(("founder", self.kinds[label]))
        return found + ([("free", self.kinds[label])] if label in self.free else [])

    def lines(self):
        """(origin, word) for each person and each one further down who has its name."""
        for label, path in self.paths.items():
            for place, elder in enumerate(path):
                if self.givens[elder] == self.givens[label]:
                    for origin in self.origins(elder):
                        yield origin, self.word(path[place + 1:])

    def kin(self):
        """(half, word, word, whether both live at one time) for each two kin of one name."""
        labels = list(self.kinds)
        for at, one in enumerate(labels):
            for other in labels[:at]:
                if self.givens[one] == self.givens[other]:
                    first, second = self.paths[one], self.paths[other]
                    same = 0
                    while same < min(len(first), len(second)) and first[same] == second[same]:
                        same += 1
                    if same < min(len(first), len(second)):
                        half = self.parents[first[same]] != self.parents[second[same]]
                        both = max(self.times[one][0], self.times[other][0]) < min(self.times[one][1], self.times[other][1])
                        yield half, self.word(first[same:]), self.word(second[same:]), both


def grown_worlds(custom, rng, many, rows):
    for _ in range(many):
        world = World(custom, rng)
        while len(world.rows) < rows:
            world.grow()
        yield world


def chance_ways_custom(rng, longest=2):
    """A custom that part 7 asks, unless it is too wide."""
    ways = [way for way in WAYS[1:] if len(way) <= longest]

    def clauses():
        takes = []
        for _ in range(rng.randint(0, 2)):
            conditions = [rng.choice([Number(rng.randint(1, 3)), Unborne(), Never(), Unlike(rng.choice(ways), rng.choice(ways))])
                          for _ in range(rng.randint(0, 2))]
            takes.append(Take(rng.choice(ways), *conditions))
        return takes + [Free(*[rng.choice(["f", "living", "ever", "mm"]) for _ in range(rng.randint(0, 1))])]

    return Custom(clauses(), clauses())
