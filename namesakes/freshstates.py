"""States of persons of fresh records, and a fresh record for each."""

from namesakes.errors import NoState, TooWide
from namesakes.fresh import check_ways
from namesakes.freshpersons import FreshWorld, deeds_to
from namesakes.plays import label_at
from namesakes.records import KINDS, MOST_ROWS, Record, is_kind


class PersonFamily:
    """A fresh record and the label of a person in it."""

    def __init__(self, record, label):
        self.record = record
        self.label = label


def fresh_states(custom):
    """All states that persons of fresh records can have, in order."""
    check_ways(custom)
    world = FreshWorld(custom)
    found = []
    for kind in KINDS:
        # Nobody stands ahead of class 0.
        ranks = [[-1 if entry is None else entry for entry in person.entries] for person in world.persons[kind]]
        found.extend([(kind, tuple([None if rank < 0 else rank for rank in row])) for row in sorted(ranks)])
    return tuple(found)


def _is_state(thing):
    """Whether the thing is a kind and a tuple of class numbers and None."""
    if not isinstance(thing, tuple) or len(thing) != 2 or not is_kind(thing[0]) or not isinstance(thing[1], tuple):
        return False
    return all([entry is None or isinstance(entry, int) and not isinstance(entry, bool) for entry in thing[1]])


def fresh_family(custom, state):
    """A fresh record in which an unwed living person has this state."""
    check_ways(custom)
    person = FreshWorld(custom).person(state[0], state[1]) if _is_state(state) else None
    if person is None:
        raise NoState(state)
    if person.rows > MOST_ROWS:
        raise TooWide("rows")
    writing = Writing(custom.width)
    label = write_person(writing, person)
    return PersonFamily(writing.finished(), label)


class Writing:
    """Rows of a fresh record; every name that comes in is the number of its row."""

    def __init__(self, width):
        self.width = width
        self.rows = []
        self.labels = 0

    def _new_label(self):
        self.labels += 1
        return label_at(self.labels - 1)

    def come(self, kind):
        label = self._new_label()
        self.rows.append(("comes", label, kind, len(self.rows), (0,) * self.width))
        return label

    def wed(self, father, mother):
        self.rows.append(("weds", father, mother))

    def bear(self, father, mother, kind):
        """A child is born; if a Take names it, the choice does not count."""
        label = self._new_label()
        self.rows.append(("born", father, mother, kind, label, len(self.rows)))
        return label

    def die(self, label):
        self.rows.append(("dies", label))

    def finished(self):
        """The record of the rows so far."""
        if len(self.rows) > MOST_ROWS:
            raise TooWide("rows")
        return Record(self.width, self.rows)


def write_person(writing, person):
    """Write out how a person of this state comes; return its label."""
    if person.couple is None:
        return writing.come(person.kind)
    # No state stands twice above another one, so this goes only so deep.
    father = write_person(writing, person.father)
    mother = write_person(writing, person.mother)
    writing.wed(father, mother)
    write_deeds(writing, father, mother, deeds_to(person.birth[0]), [])
    return writing.bear(father, mother, person.kind)


def write_deeds(writing, father, mother, deeds, born):
    """Write out deeds of a couple; `born` has (label, class) of its living children so far.

    It returns these pairs as they are behind the deeds.
    """
    living = list(born)
    for deed in deeds:
        if deed[0] == "born":
            living.append((writing.bear(father, mother, deed[1]), deed[2]))
        else:
            for child in [label for label, number in living if number == deed[1]]:
                writing.die(child)
            living = [pair for pair in living if pair[1] != deed[1]]
    return living
