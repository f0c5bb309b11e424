"""Steps: how states come from no state, from two, or from one."""

from namesakes.allpatterns import all_patterns
from namesakes.clauses import OTHER_LETTER, Case, Free
from namesakes.joinings import all_joinings
from namesakes.patterns import Pattern, numbered
from namesakes.records import KINDS, PARENT_KIND
from namesakes.states import MOST_NUMBER, NEVER_BORNE, NOW_BORNE, ONCE_BORNE, CoupleState, PersonState


class Step:
    """A deed, the states ahead of it and those that come by it."""

    def __init__(self, deed, states, results):
        self.deed = deed
        self.states = states
        self.results = results

    def __eq__(self, other):
        return (
            type(self) is type(other)
            and self.deed == other.deed
            and self.states == other.states
            and self.results == other.results
        )


def _sources(scope):
    """For each place of a couple's names the source that leads there from a child."""
    return [f"{letter}{place}" for letter in PARENT_KIND for place in scope.places(PARENT_KIND[letter])]


def _child_ways(scope):
    """For each entry of a couple's lives the way that leads there from a child."""
    return [f"{letter}{way}" for letter in PARENT_KIND for way in scope.life_ways(PARENT_KIND[letter])]


def founder_steps(scope):
    """The comings of founders: sons first, then by mark, then by pattern."""
    for kind in KINDS:
        places = scope.places(kind)
        lives = (None,) * len(scope.life_ways(kind))
        own = [place for place in places if place == "" or place[0] == "."]
        size = len(own)
        for mark in scope.first_marks(kind):
            for pattern in all_patterns(size):
                names = [pattern.entries[own.index(place)] if place in own else None for place in places]
                yield Step(("comes", kind), (), (PersonState(kind, names, lives, mark),))


def wedding_steps(scope, father, mother):
    """The weddings of two persons, in the order of the joinings of their names."""
    one = Pattern(father.names)
    other = Pattern(mother.names)
    for joining in all_joinings(one, other):
        couple = _wed_couple(scope, father, mother, joining.joined.entries)
        yield Step(("weds", joining.links), (father, mother), (couple,))


def _wed_couple(scope, father, mother, entries):
    """The couple just wed; the entries are the names of both ahead of the wedding."""
    rules = {
        "f": scope.wedding_custom("s", father.mark).wedding_rules("s"),
        "m": scope.wedding_custom("d", mother.mark).wedding_rules("d"),
    }
    ahead = dict(zip(_sources(scope), entries))
    names = numbered([ahead[_source_ahead(rules, source)] for source in ahead])
    behind = dict(zip(ahead, names))
    tracked = sorted({behind[source] for source in scope.reads.tracked if behind[source] is not None})
    if scope.followed:
        tracked.append(Pattern(names).class_count)
    borne = [(number, NEVER_BORNE) for number in tracked]
    return CoupleState(names, father.lives + mother.lives, 0, 0, borne, (father.mark, mother.mark))


def _source_ahead(rules, source):
    """Where the name at this source behind a wedding stood ahead of it."""
    rule = rules[source[0]][int(source[2])] if "." in source else "own"
    return source if rule == "own" else f"{OTHER_LETTER[source[0]]}.{rule}"


def following_steps(scope, state):
    """The steps from this state alone."""
    if isinstance(state, PersonState):
        yield from _person_elder_steps(scope, state)
    else:
        yield from _couple_elder_steps(scope, state)
        yield from _birth_steps(scope, state, "s")
        yield from _birth_steps(scope, state, "d")
        yield from _bearer_steps(state)
        yield from _mate_steps(scope, state)


def _with_dead(lives, place):
    return lives[:place] + ("dead",) + lives[place + 1:]


def _person_elder_steps(scope, person):
    for place, way in enumerate(scope.life_ways(person.kind)):
        if person.lives[place] == "alive":
            result = PersonState(person.kind, person.names, _with_dead(person.lives, place), person.mark)
            yield Step(("elder", way), (person,), (result,))


def _couple_elder_steps(scope, couple):
    for place, way in enumerate(_child_ways(scope)):
        if couple.lives[place] == "alive":
            lives = _with_dead(couple.lives, place)
            result = CoupleState(couple.names, lives, couple.sons, couple.daughters, couple.borne, couple.marks)
            yield Step(("elder", way), (couple,), (result,))


def case_of(scope, couple, kind):
    """The Case of the couple's next child of this kind, with class numbers as names."""
    born = couple.sons if kind == "s" else couple.daughters
    names = dict(zip(_sources(scope), couple.names))
    lives = {"f": "alive", "m": "alive"}
    for way, life in zip(_child_ways(scope), couple.lives):
        lives[way] = life
    borne = [number for number, mark in couple.borne if mark == NOW_BORNE]
    ever = [number for number, mark in couple.borne if mark != NEVER_BORNE]
    return Case(kind, born + 1, names, lives, borne, ever)


def birth_names(scope, couple, kind):
    """The names that the couple's next child of this kind can get."""
    case = case_of(scope, couple, kind)
    custom = scope.custom_for(couple, kind)
    named = custom(case)
    if named.manner != Free.MANNER:
        return (named.name,)
    # The followed name, if there is one, has the number behind all classes.
    many = couple.classes + 1 if scope.followed else couple.classes
    return tuple([number for number in range(many) if custom.barred(case, number) is None] + [None])


def is_untracked_choice(scope, couple, deed):
    """Whether a Free gives a class of which the couple does not keep who bears it."""
    if deed[0] != "born" or deed[3] is None or couple.mark_of(deed[3]) is not None:
        return False
    return deed[2] == len(scope.custom_for(couple, deed[1]).clauses(deed[1])) - 1


def _birth_steps(scope, couple, kind):
    case = case_of(scope, couple, kind)
    custom = scope.custom_for(couple, kind)
    clause = custom(case).index
    for name in birth_names(scope, couple, kind):
        results = (_grown_couple(scope, couple, kind, name), _newborn(scope, couple, case, name))
        yield Step(("born", kind, clause, name), (couple,), results)


def _grown_couple(scope, couple, kind, name):
    """The couple with one more child of this kind and name."""
    sons, daughters = couple.sons, couple.daughters
    if kind == "s" and scope.asks_number("s"):
        sons = min(MOST_NUMBER, sons + 1)
    if kind == "d" and scope.asks_number("d"):
        daughters = min(MOST_NUMBER, daughters + 1)
    borne = _with_mark(couple.borne, name, NOW_BORNE)
    return CoupleState(couple.names, couple.lives, sons, daughters, borne, couple.marks)


def _with_mark(borne, number, mark):
    return tuple([(other, mark if other == number else before) for other, before in borne])


def _newborn(scope, couple, case, name):
    """The child of this case that gets this name."""
    kind = case.kind
    house = scope.custom_for(couple, kind).house
    # The number behind all classes is unlike all places, as a new name is.
    own = couple.classes if name is None else name
    names = []
    for place in scope.places(kind):
        if place == "":
            names.append(own)
        elif place[0] == ".":
            names.append(case.names[_birth_source(house[int(place[1])])])
        else:
            names.append(case.names[place])
    lives = [case.lives[way] for way in scope.life_ways(kind)]
    return PersonState(kind, numbered(names), lives, scope.child_mark(couple, kind))


def _birth_source(rule):
    """The source from which a house name comes by this rule."""
    if rule[0] == "given":
        return rule[1]
    return f"{rule[0]}.{rule[1]}"


def _bearer_steps(couple):
    for number, mark in couple.borne:
        if mark == NOW_BORNE:
            borne = _with_mark(couple.borne, number, ONCE_BORNE)
            result = CoupleState(couple.names, couple.lives, couple.sons, couple.daughters, borne, couple.marks)
            yield Step(("bearers", number), (couple,), (result,))


def _mate_steps(scope, couple):
    places = len(scope.places("s"))
    ways = len(scope.life_ways("s"))
    mother = PersonState("d", numbered(couple.names[places:]), couple.lives[ways:], couple.marks[1])
    yield Step(("mate", "f"), (couple,), (mother,))
    father = PersonState("s", numbered(couple.names[:places]), couple.lives[:ways], couple.marks[0])
    yield Step(("mate", "m"), (couple,), (father,))


def step_of(scope, state, deed):
    """The following step with this deed, or None."""
    for step in following_steps(scope, state):
        if _is_same_deed(step.deed, deed):
            return step
    return None


def _is_same_deed(deed, thing):
    """Whether the thing is the deed, numbers and truths told apart."""
    if not isinstance(thing, tuple) or len(thing) != len(deed):
        return False
    return all([type(part) is type(item) and part == item for part, item in zip(deed, thing)])
