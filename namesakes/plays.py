"""Plays: rows that are written out deed by deed, as steps tell.

A name that is new in the rows of one side of a wedding can be made alike to one of
the other side behind the fact: no custom has compared the two so far.
"""

from namesakes.errors import TooWide
from namesakes.patterns import Pattern
from namesakes.records import KINDS, MOST_ROWS, Record
from namesakes.states import PersonState

LETTERS = "abcdefghijklmnopqrstuvwxyz"


def label_at(number):
    """The label of this number: a, b, .. z, aa, ab, .."""
    label = LETTERS[number % 26]
    while number >= 26:
        number = number // 26 - 1
        label = LETTERS[number % 26] + label
    return label


class Top:
    """Where a play stands: a state, its persons, and the name of each class."""

    def __init__(self, state, labels, names, children):
        self.state = state
        self.labels = labels
        self.names = names
        self.children = children


class Play:
    """The rows so far, with what is known of their persons; it changes row by row."""

    def __init__(self, scope):
        self.scope = scope
        self.rows = []
        self.givens = {}
        self.parents = {}
        self.dead = {}
        # Kept only for persons whose comings and births are played here.
        self.houses = {}
        self.marks = []
        # Names that were made alike to others: from each to the one it became.
        self.became = {}
        self.used_names = {}
        self.next_name = 0
        self.next_label = 0

    def take_in(self, record, givens):
        """Begin with the rows of a record in which persons bear these names."""
        for label, given in givens:
            self.givens[label] = given
            self.used_names[given] = True
        for row in record.rows:
            if row[0] == "comes":
                for name in row[4]:
                    self.used_names[name] = True
            elif row[0] == "born":
                self.used_names[row[5]] = True
                self.parents[row[4]] = (row[1], row[2])
            elif row[0] == "dies":
                self.dead[row[1]] = True
            self.rows.append(row)

    def new_name(self):
        """The least name that stands nowhere so far."""
        while self.next_name in self.used_names:
            self.next_name += 1
        self.used_names[self.next_name] = True
        return self.next_name

    def new_label(self):
        """A label that nobody has so far."""
        label = label_at(self.next_label)
        while label in self.givens:
            self.next_label += 1
            label = label_at(self.next_label)
        return label

    def name_now(self, name):
        """What this name has become."""
        while name in self.became:
            name = self.became[name]
        return name

    def make_alike(self, name, other):
        """Let the first name, and all that became it, become the other one."""
        self.became[self.name_now(name)] = self.name_now(other)

    def elder_of(self, label, way):
        """The person to whom the way leads, as it does to somebody."""
        elder = label
        for letter in way:
            elder = self.parents[elder][0 if letter == "f" else 1]
        return elder

    def name_at(self, label, place):
        """The name at a place of a person, where there is one."""
        if place != "" and place[0] == ".":
            return self.name_now(self.houses[label][int(place[1])])
        return self.name_now(self.givens[self.elder_of(label, place)])

    def living_bearers(self, children, name):
        """Those of these children who live and bear the name."""
        living = [child for child in children if child not in self.dead]
        return [child for child in living if self.name_now(self.givens[child]) == name]

    def die(self, label):
        self.dead[label] = True
        self.rows.append(("dies", label))

    def bear(self, couple, kind, name):
        """A child of this name is born to the couple; return its label."""
        label = self.new_label()
        self.givens[label] = name
        self.parents[label] = couple
        self.rows.append(("born", couple[0], couple[1], kind, label, name))
        return label


def _named_row(play, row):
    """The row with what its names have become."""
    if row[0] == "comes":
        house = tuple([play.name_now(name) for name in row[4]])
        return (row[0], row[1], row[2], play.name_now(row[3]), house)
    if row[0] == "born":
        return row[:5] + (play.name_now(row[5]),)
    return row


def played_record(play):
    """The record of the rows so far."""
    if len(play.rows) > MOST_ROWS:
        raise TooWide("rows")
    return Record(play.scope.width, [_named_row(play, row) for row in play.rows])


def _class_names(play, state, labels):
    """The name of each class of the state of these persons."""
    kinds = (state.kind,) if isinstance(state, PersonState) else KINDS
    found = {}
    at = 0
    for label, kind in zip(labels, kinds):
        for place in play.scope.places(kind):
            if state.names[at] is not None:
                found[state.names[at]] = play.name_at(label, place)
            at += 1
    return [found[number] for number in range(len(found))]


def come(play, state):
    """A founder of this state comes."""
    label = play.new_label()
    at = dict(zip(play.scope.places(state.kind), state.names))
    names = [play.new_name() for _ in range(Pattern(state.names).class_count)]
    own = [""] + [f".{place}" for place in range(play.scope.width)]
    brought = [names[at[place]] if place in at else play.new_name() for place in own]
    play.givens[label] = brought[0]
    play.houses[label] = tuple(brought[1:])
    play.marks.append((label, state.mark))
    play.rows.append(("comes", label, state.kind, brought[0], tuple(brought[1:])))
    return Top(state, (label,), names, ())


def wed(play, father, mother, links, state):
    """Two persons, of rows of their own so far, wed with these links."""
    for number, link in enumerate(links):
        if link is not None:
            play.make_alike(mother.names[number], father.names[link])
    labels = (father.labels[0], mother.labels[0])
    houses = [play.houses[label] for label in labels]
    his = play.scope.wedding_custom("s", father.state.mark)
    hers = play.scope.wedding_custom("d", mother.state.mark)
    play.houses[labels[0]] = his.house_at_wedding("s", houses[0], houses[1])
    play.houses[labels[1]] = hers.house_at_wedding("d", houses[1], houses[0])
    play.rows.append(("weds", labels[0], labels[1]))
    names = _class_names(play, state, labels)
    return Top(state, labels, names + [None] if play.scope.followed else names, ())


def as_child(play, top, couple, state):
    """Go on with the couple's last child instead; the couple had this state at the birth."""
    label = top.children[-1]
    father, mother = top.labels
    custom = play.scope.custom_for(couple, state.kind)
    play.houses[label] = custom.house_at_birth(
        play.houses[father], play.houses[mother], play.givens[father], play.givens[mother]
    )
    return Top(state, (label,), _class_names(play, state, (label,)), ())


def follow(play, top, step):
    """Write out a following step; a birth goes on with the couple."""
    word = step.deed[0]
    if word == "born":
        return _follow_birth(play, top, step)
    if word == "mate":
        return _follow_mate(play, top, step)
    if word == "elder":
        play.die(_elder_at(play, top, step.deed[1]))
    else:
        for child in play.living_bearers(top.children, top.names[step.deed[1]]):
            play.die(child)
    return Top(step.results[0], top.labels, top.names, top.children)


def _elder_at(play, top, way):
    """The elder of a person, or of a couple's child."""
    if isinstance(top.state, PersonState):
        return play.elder_of(top.labels[0], way)
    return play.elder_of(top.labels[0 if way[0] == "f" else 1], way[1:])


def _follow_birth(play, top, step):
    number = step.deed[3]
    names = list(top.names)
    if number is None:
        name = play.new_name()
    else:
        # A followed name that no child has had so far is a new one, too.
        if names[number] is None:
            names[number] = play.new_name()
        name = names[number]
    child = play.bear(top.labels, step.deed[1], name)
    return Top(step.results[0], top.labels, names, top.children + (child,))


def bear_again(play, top, step, given):
    """Write out a birth by this step at which the child gets the given name of an elder one."""
    child = play.bear(top.labels, step.deed[1], given)
    return Top(step.results[0], top.labels, top.names, top.children + (child,))


def _follow_mate(play, top, step):
    """The father or the mother dies; go on with the other one."""
    state = step.results[0]
    dies, stays = (0, 1) if step.deed[1] == "f" else (1, 0)
    play.die(top.labels[dies])
    middle = len(play.scope.places("s"))
    numbers = top.state.names[:middle] if stays == 0 else top.state.names[middle:]
    found = {}
    for entry, number in zip(state.names, numbers):
        if entry is not None:
            found[entry] = top.names[number]
    return Top(state, (top.labels[stays],), [found[entry] for entry in range(len(found))], ())
