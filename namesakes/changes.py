"""Changes of a custom: bars and conditions more, Takes left out or exchanged."""

from namesakes.clauses import MOST_CONDITIONS, Free, Number, Take, Unborne, is_bar
from namesakes.customs import Custom
from namesakes.errors import BadChange
from namesakes.records import KINDS, is_kind, is_sequence, is_whole

MOST_CHANGES = 8
# How many items a change has, by its first word.
SIZES = {"bar": 3, "unborne": 3, "number": 4, "drop": 3, "swap": 3}


def _has_form(change):
    if not is_sequence(change) or not change or not isinstance(change[0], str):
        return False
    return change[0] in SIZES and len(change) == SIZES[change[0]] and is_kind(change[1])


def _bar_fault(custom, bar):
    if not is_bar(bar) or "." in bar and int(bar[2]) >= custom.width:
        return "bar"
    return None


def _change_fault(custom, change):
    """What is wrong with the change as it is written, or None."""
    if not _has_form(change):
        return "change"
    if change[0] == "bar":
        return _bar_fault(custom, change[2])
    takes = len(custom.clauses(change[1])) - 1
    if not is_whole(change[2], 0, takes - 1):
        return "clause"
    if change[0] == "swap" and change[2] == takes - 1:
        return "next"
    if change[0] == "number" and change[3] is not None and not is_whole(change[3], 1, 4):
        return "number"
    return None


def check_changes(custom, changes):
    """Raise BadChange for the first change that is wrong as it is written."""
    for index, change in enumerate(changes):
        what = _change_fault(custom, change)
        if what is not None:
            raise BadChange(index, what)


class Draft:
    """The clauses of a kind while they are changed.

    Takes keep the indices that they have in the custom; `order` tells where they stand.
    """

    def __init__(self, clauses):
        self.taken_from = [take.source for take in clauses[:-1]]
        self.conditions = [list(take.conditions) for take in clauses[:-1]]
        self.order = list(range(len(clauses) - 1))
        self.bars = list(clauses[-1].bars)

    def make(self, change):
        """Make a change of this kind; return whether it is too much for a clause."""
        if change[0] == "bar":
            if change[2] not in self.bars:
                self.bars.append(change[2])
            return len(self.bars) > MOST_CONDITIONS
        clause = change[2]
        if clause not in self.order:
            return False
        if change[0] == "drop":
            self.order.remove(clause)
        elif change[0] == "swap":
            self.swap(clause, clause + 1)
        elif change[0] == "number":
            self.put_number(clause, change[3])
        elif Unborne() not in self.conditions[clause]:
            self.conditions[clause].append(Unborne())
        return len(self.conditions[clause]) > MOST_CONDITIONS

    def swap(self, one, other):
        if other in self.order:
            first, second = self.order.index(one), self.order.index(other)
            self.order[first] = other
            self.order[second] = one

    def put_number(self, clause, n):
        others = [condition for condition in self.conditions[clause] if not isinstance(condition, Number)]
        self.conditions[clause] = others if n is None else [Number(n)] + others

    def clauses(self):
        found = []
        for clause in self.order:
            conditions = self.conditions[clause]
            found.append(Take(self.taken_from[clause], *conditions))
        bars = self.bars
        return found + [Free(*bars)]


def changed_custom(custom, changes):
    """The custom with these changes made, one after another."""
    if not is_sequence(changes) or len(changes) > MOST_CHANGES:
        raise BadChange(0, "changes")
    check_changes(custom, changes)
    drafts = {kind: Draft(custom.clauses(kind)) for kind in KINDS}
    for index, change in enumerate(changes):
        draft = drafts[change[1]]
        if draft.make(change):
            raise BadChange(index, "many")
    return Custom(
        drafts["s"].clauses(),
        drafts["d"].clauses(),
        house=custom.house,
        son_weds=custom.son_weds,
        daughter_weds=custom.daughter_weds,
    )
