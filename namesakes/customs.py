"""Customs: the clauses by which children are named, and the rules for house names."""

from namesakes.clauses import Free, Take, listed, mirrored_source, reads_beyond
from namesakes.errors import BadCustom, BadKind
from namesakes.records import MOST_WIDTH, PARENT_KIND, is_kind, is_sequence, is_whole

MOST_CLAUSES = 5


class Named:
    """By which clause a child is named, and why the earlier ones are passed over."""

    def __init__(self, index, manner, name, passed):
        self.index = index
        self.manner = manner
        self.name = name
        self.passed = passed

    def __eq__(self, other):
        return (
            type(self) is type(other)
            and self.index == other.index
            and self.manner == other.manner
            and self.name == other.name
            and self.passed == other.passed
        )


def _check_clauses(part, clauses):
    if not is_sequence(clauses) or not 1 <= len(clauses) <= MOST_CLAUSES:
        raise BadCustom(part, 0, "clauses")
    last = len(clauses) - 1
    for index, clause in enumerate(clauses):
        if not isinstance(clause, (Take, Free)):
            raise BadCustom(part, index, "clause")
        if isinstance(clause, Free) and index < last:
            raise BadCustom(part, index, "free")
        if isinstance(clause, Take) and index == last:
            raise BadCustom(part, index, "last")


def _check_house(house):
    if not is_sequence(house) or len(house) > MOST_WIDTH:
        raise BadCustom("house", 0, "houses")
    for index, rule in enumerate(house):
        if not _is_house_rule(rule, len(house)):
            raise BadCustom("house", index, "house")


def _is_house_rule(rule, width):
    if not is_sequence(rule) or len(rule) != 2 or not isinstance(rule[0], str):
        return False
    if rule[0] == "given":
        return isinstance(rule[1], str) and rule[1] in PARENT_KIND
    return rule[0] in PARENT_KIND and is_whole(rule[1], 0, width - 1)


def _check_width(part, clauses, width):
    for index, clause in enumerate(clauses):
        if reads_beyond(clause, width):
            raise BadCustom(part, index, "width")


def _check_weddings(part, rules, width):
    if rules is None:
        return
    if not is_sequence(rules) or len(rules) != width:
        raise BadCustom(part, 0, "weddings")
    for index, rule in enumerate(rules):
        is_own = isinstance(rule, str) and rule == "own"
        if not is_own and not is_whole(rule, 0, width - 1):
            raise BadCustom(part, index, "wedding")


def _rules_or_own(rules, width):
    return ("own",) * width if rules is None else tuple(rules)


def _mirrored_rule(rule):
    if rule[0] == "given":
        return ("given", mirrored_source(rule[1]))
    return (mirrored_source(rule[0]), rule[1])


class Custom:
    """The clauses for sons and for daughters, and the rules for house names."""

    def __init__(self, sons, daughters, *, house=(), son_weds=None, daughter_weds=None):
        _check_clauses("s", sons)
        _check_clauses("d", daughters)
        _check_house(house)
        width = len(house)
        _check_width("s", sons, width)
        _check_width("d", daughters, width)
        _check_weddings("wedding s", son_weds, width)
        _check_weddings("wedding d", daughter_weds, width)
        self.sons = tuple(sons)
        self.daughters = tuple(daughters)
        self.house = tuple([tuple(rule) for rule in house])
        self.son_weds = _rules_or_own(son_weds, width)
        self.daughter_weds = _rules_or_own(daughter_weds, width)
        self.width = width

    def clauses(self, kind):
        if not is_kind(kind):
            raise BadKind(kind)
        return self.sons if kind == "s" else self.daughters

    def wedding_rules(self, kind):
        if not is_kind(kind):
            raise BadKind(kind)
        return self.son_weds if kind == "s" else self.daughter_weds

    def __call__(self, case):
        """Name the child of this case: the first clause that is not passed over."""
        clauses = self.clauses(case.kind)
        passed = []
        for index, clause in enumerate(clauses[:-1]):
            why = clause.passed_over(case)
            if why is None:
                return Named(index, clause.MANNER, case.names[clause.source], tuple(passed))
            passed.append(why)
        return Named(len(passed), Free.MANNER, None, tuple(passed))

    def barred(self, case, name):
        """The index of the first bar that bars the name, or None."""
        return self.clauses(case.kind)[-1].barred(case, name)

    def allows(self, case, name):
        """Whether the child of this case may have this name."""
        named = self(case)
        if named.manner == Free.MANNER:
            return self.barred(case, name) is None
        return named.name == name

    def house_at_birth(self, father_house, mother_house, father_given, mother_given):
        """The house names of a newborn child."""
        houses = {"f": father_house, "m": mother_house}
        givens = {"f": father_given, "m": mother_given}
        found = []
        for first, second in self.house:
            found.append(givens[second] if first == "given" else houses[first][second])
        return tuple(found)

    def house_at_wedding(self, kind, own, mate):
        """The house names of a person of this kind behind the wedding."""
        found = []
        for place, rule in enumerate(self.wedding_rules(kind)):
            found.append(own[place] if rule == "own" else mate[rule])
        return tuple(found)

    def mirrored(self):
        """The custom with sons and daughters, fathers and mothers exchanged."""
        return Custom(
            [clause.mirrored() for clause in self.daughters],
            [clause.mirrored() for clause in self.sons],
            house=[_mirrored_rule(rule) for rule in self.house],
            son_weds=self.daughter_weds,
            daughter_weds=self.son_weds,
        )

    def __eq__(self, other):
        return (
            type(self) is type(other)
            and self.sons == other.sons
            and self.daughters == other.daughters
            and self.house == other.house
            and self.son_weds == other.son_weds
            and self.daughter_weds == other.daughter_weds
        )

    def __str__(self):
        return "\n".join(_text_rows(self))


def _text_rows(custom):
    """The rows of the custom's text."""
    rows = ["custom", "sons"] + [str(clause) for clause in custom.sons]
    rows.append("daughters")
    rows.extend([str(clause) for clause in custom.daughters])
    if custom.width:
        rules = listed([f"{first} {second}" for first, second in custom.house])
        rows.append(f"house {rules}")
        rows.append(f"sons wed {listed(custom.son_weds)}")
        rows.append(f"daughters wed {listed(custom.daughter_weds)}")
    return rows
