"""Lines gone along plainly, person by person, with customs read off their texts; and lines by chance."""

from namesakes.clauses import Free, Never, Number, Take, Unborne, Unlike
from namesakes.customs import Custom
from namesakes.lines import Line
from tests.families import WAYS, sources


class Person:
    def __init__(self, given, father=None, mother=None, house=()):
        self.given, self.parents, self.house = given, {"f": father, "m": mother}, tuple(house)

    def elder(self, way):
        person = self
        for letter in way:
            person = None if person is None else person.parents[letter]
        return person


def newcomer(width, elders, name):
    """Somebody who brings the name name(place) at each place."""
    def at(way):
        if len(way) > (2 if elders else 0):
            return None
        return Person(name(way), at(way + "f"), at(way + "m"))

    person = at("")
    person.house = tuple(name(f".{place}") for place in range(width))
    return person


def name_at(father, mother, source):
    parent = father if source[0] == "f" else mother
    if "." in source:
        return parent.house[int(source[2])]
    elder = parent.elder(source[1:])
    return None if elder is None else elder.given


def judge(custom, father, mother, kind, number, names):
    """(index, name or None) of the next child; names are those of the children so far."""
    clauses = custom.clauses(kind)
    for index, clause in enumerate(clauses[:-1]):
        source, _, rest = str(clause).removeprefix("take ").partition(" if ")
        name = name_at(father, mother, source)
        if name is not None and all(holds(word, father, mother, number, names, name) for word in rest.split(", ") if word):
            return index, name
    return len(clauses) - 1, None


def holds(word, father, mother, number, names, name):
    first, *rest = word.split(" ")
    if first == "number":
        return min(4, number) == int(rest[0])
    if first in ("unborne", "never"):
        return name not in names
    one, other = [name_at(father, mother, source) for source in rest]
    return None not in (one, other) and one != other


def wed(custom, father, mother):
    his, hers = father.house, mother.house
    father.house = tuple(his[i] if rule == "own" else hers[rule] for i, rule in enumerate(custom.son_weds))
    mother.house = tuple(hers[i] if rule == "own" else his[rule] for i, rule in enumerate(custom.daughter_weds))


def born_house(custom, father, mother):
    parents = {"f": father, "m": mother}
    return [parents[second].given if first == "given" else parents[first].house[second] for first, second in custom.house]


def go_along(line, many):
    """(origins, clauses) of persons 1 to many of the line; entry 0 is None."""
    custom, elders = line.custom, line.elders
    father = newcomer(custom.width, elders, lambda place: ("first", "f" + place))
    mother = newcomer(custom.width, elders, lambda place: ("first", "m" + place))
    origins, clauses = [None], [None]
    wed(custom, father, mother)
    for n in range(1, many + 1):
        steps = list(line.start) + list(line.again) * (n // len(line.again) + 1)
        kind, number = steps[n - 1]
        names = []
        for count in range(1, number + 1):
            index, name = judge(custom, father, mother, kind, count, names)
            names.append(name or (("own", n) if count == number else ("elder sibling", n, count)))
        person = Person(names[-1], father, mother, born_house(custom, father, mother))
        origins.append(names[-1])
        clauses.append(index)
        mate = newcomer(custom.width, elders, lambda place: ("mate", n, place))
        father, mother = (person, mate) if kind == "s" else (mate, person)
        wed(custom, father, mother)
    return origins, clauses


def chance_clauses(rng, width, most):
    places = sources(width)
    clauses = []
    for _ in range(rng.randint(0, most)):
        conditions = [rng.choice([Number(rng.randint(1, 4)), Unborne(), Never(), Unlike(rng.choice(places), rng.choice(places))])
                      for _ in range(rng.choice([0, 0, 1, 1, 2]))]
        clauses.append(Take(rng.choice(places), *conditions))
    return clauses + [Free(*[rng.choice(places + ["living", "ever"]) for _ in range(rng.randint(0, 1))])]


def chance_lifeless(rng, width=None, most=4):
    """A custom without Alive and Dead."""
    width = rng.randint(0, 2) if width is None else width
    rules = [(letter, i) for letter in "fm" for i in range(width)] + [("given", "f"), ("given", "m")]
    weds = [[rng.choice(["own", *range(width)]) for _ in range(width)] for _ in range(2)]
    return Custom(chance_clauses(rng, width, most), chance_clauses(rng, width, most),
                  house=[rng.choice(rules) for _ in range(width)], son_weds=weds[0], daughter_weds=weds[1])


def chance_steps(rng, least, most):
    return [(rng.choice("sd"), rng.randint(1, 4)) for _ in range(rng.randint(least, most))]


def chance_line(rng, elders=None):
    elders = rng.random() < 0.5 if elders is None else elders
    return Line(chance_lifeless(rng), chance_steps(rng, 0, 6), chance_steps(rng, 1, 6), elders=elders)


def shown_origins(width, elders):
    """All places of a newcomer at which a name stands."""
    return ([way for way in WAYS if len(way) <= (2 if elders else 0)] + [f".{i}" for i in range(width)])
