"""States: what a scope reads of an unwed person and of a couple."""

from namesakes.errors import BadPattern, BadState
from namesakes.patterns import Pattern
from namesakes.records import is_kind, is_sequence, is_whole

MOST_MARK = 1000
MOST_NUMBER = 3
# What is known of the names of tracked classes among the couple's children.
NEVER_BORNE = 0
ONCE_BORNE = 1
NOW_BORNE = 2


def is_mark(thing):
    return is_whole(thing, 0, MOST_MARK)


def _pattern_of(names):
    """The pattern with these entries; refuse a state of which there is none."""
    try:
        return Pattern(names)
    except BadPattern:
        raise BadState("names") from None


def _check_lives(lives):
    if not is_sequence(lives):
        raise BadState("lives")
    for life in lives:
        if life is not None and not (isinstance(life, str) and life in ("alive", "dead")):
            raise BadState("lives")


def _check_borne(borne, classes):
    if not is_sequence(borne):
        raise BadState("borne")
    least = 0
    for pair in borne:
        if not is_sequence(pair) or len(pair) != 2:
            raise BadState("borne")
        if not is_whole(pair[0], least, classes) or not is_whole(pair[1], NEVER_BORNE, NOW_BORNE):
            raise BadState("borne")
        least = pair[0] + 1


class PersonState:
    """What is read of a living person that has no living mate."""

    def __init__(self, kind, names, lives, mark=0):
        if not is_kind(kind):
            raise BadState("kind")
        pattern = _pattern_of(names)
        _check_lives(lives)
        if not is_mark(mark):
            raise BadState("marks")
        self.kind = kind
        self.names = pattern.entries
        self.lives = tuple(lives)
        self.mark = mark

    def __eq__(self, other):
        return (
            type(self) is type(other)
            and self.kind == other.kind
            and self.names == other.names
            and self.lives == other.lives
            and self.mark == other.mark
        )


class CoupleState:
    """What is read of a couple: the father's places, then the mother's."""

    def __init__(self, names, lives, sons, daughters, borne, marks=(0, 0)):
        pattern = _pattern_of(names)
        _check_lives(lives)
        if not is_whole(sons, 0, MOST_NUMBER) or not is_whole(daughters, 0, MOST_NUMBER):
            raise BadState("numbers")
        _check_borne(borne, pattern.class_count)
        if not is_sequence(marks) or len(marks) != 2 or not is_mark(marks[0]) or not is_mark(marks[1]):
            raise BadState("marks")
        self.names = pattern.entries
        self.lives = tuple(lives)
        self.sons = sons
        self.daughters = daughters
        self.borne = tuple([tuple(pair) for pair in borne])
        self.marks = tuple(marks)
        self.classes = pattern.class_count
        given = [mark for _, mark in self.borne if mark > NEVER_BORNE]
        self.is_new = sons == 0 and daughters == 0 and not given

    def mark_of(self, class_number):
        """The mark of a class in borne, or None."""
        for number, mark in self.borne:
            if number == class_number:
                return mark
        return None

    def __eq__(self, other):
        return (
            type(self) is type(other)
            and self.names == other.names
            and self.lives == other.lives
            and self.sons == other.sons
            and self.daughters == other.daughters
            and self.borne == other.borne
            and self.marks == other.marks
        )


def state_key(state):
    """A tuple that stands for the state as a key: alike for equal states alone."""
    if isinstance(state, PersonState):
        return (state.kind, state.names, state.lives, state.mark)
    return (state.names, state.lives, state.sons, state.daughters, state.borne, state.marks)
