"""Patterns: which places of a row of names are alike, and nothing else."""

from namesakes.errors import BadClass, BadMatch, BadNames, BadPattern, BadPlaces, NoRenaming
from namesakes.records import is_name, is_sequence, is_whole

MOST_PLACES = 40


def numbered(values):
    """Class numbers for a row of values: like ones get like numbers, None stays.

    The classes are numbered from 0 in the order of their first places.
    """
    numbers = {}
    found = []
    for value in values:
        if value is not None and value not in numbers:
            numbers[value] = len(numbers)
        found.append(numbers.get(value))
    return found


def _entries_fault(entries):
    """None, or (index, what) of the first thing that makes it no pattern."""
    if not is_sequence(entries) or len(entries) > MOST_PLACES:
        return (0, "entries")
    classes = 0
    for index, entry in enumerate(entries):
        if entry is None:
            continue
        if not isinstance(entry, int) or isinstance(entry, bool) or entry < 0:
            return (index, "entry")
        if entry > classes:
            return (index, "order")
        if entry == classes:
            classes += 1
    return None


class Pattern:
    """For each place its class number, or None for nobody."""

    def __init__(self, entries):
        fault = _entries_fault(entries)
        if fault is not None:
            raise BadPattern(fault[0], fault[1])
        self.entries = tuple(entries)
        self._classes = 1 + max([entry for entry in entries if entry is not None], default=-1)

    @staticmethod
    def of_names(names):
        """The pattern that a row of names shows."""
        check_names(names)
        return Pattern(numbered(names))

    @property
    def class_count(self):
        """The number of classes."""
        return self._classes

    def class_at(self, place):
        self._check_place(0, place)
        return self.entries[place]

    def places_of(self, number):
        """The places of the class, ascending."""
        if not is_whole(number, 0, self._classes - 1):
            raise BadClass(number)
        return tuple([place for place, entry in enumerate(self.entries) if entry == number])

    def are_alike(self, one, other):
        """Whether both places are of one class."""
        self._check_place(0, one)
        self._check_place(1, other)
        return self.entries[one] is not None and self.entries[one] == self.entries[other]

    def at_places(self, places):
        """The pattern of these places, in this order."""
        if not is_sequence(places) or len(places) > MOST_PLACES:
            raise BadPlaces(0, "places")
        for index, place in enumerate(places):
            self._check_place(index, place)
        return Pattern(numbered([self.entries[place] for place in places]))

    def _check_place(self, index, place):
        if not is_whole(place, 0, len(self.entries) - 1):
            raise BadPlaces(index, "place")

    def __or__(self, other):
        """The finest pattern for which both are finer than it."""
        check_match(self, other)
        return Pattern(numbered(_merged(self.entries, other.entries)))

    def __and__(self, other):
        """The coarsest pattern that is finer than both."""
        check_match(self, other)
        pairs = [(entry, other.entries[place]) for place, entry in enumerate(self.entries)]
        return Pattern(numbered([None if pair[0] is None else pair for pair in pairs]))

    def __eq__(self, other):
        return type(self) is type(other) and self.entries == other.entries

    def __len__(self):
        return len(self.entries)

    def __iter__(self):
        return iter(self.entries)


def check_match(one, other):
    """Raise BadMatch unless the patterns match."""
    if len(one.entries) != len(other.entries):
        raise BadMatch("places")
    if [entry is None for entry in one.entries] != [entry is None for entry in other.entries]:
        raise BadMatch("nobody")


def _merged(one, other):
    """The entries of one, in which all that are alike in other became alike."""
    found = list(one)
    for number in range(len(other)):
        alike = [entry for place, entry in enumerate(found) if other[place] == number]
        found = [alike[0] if entry in alike else entry for entry in found]
    return found


def is_finer(one, other):
    """Whether every two places that are alike in one are alike in other, too."""
    check_match(one, other)
    pairs = [(entry, other.entries[place]) for place, entry in enumerate(one.entries) if entry is not None]
    return len(set(pairs)) == one.class_count


def check_names(names):
    """Raise BadNames unless it is a row of names."""
    if not is_sequence(names) or len(names) > MOST_PLACES:
        raise BadNames(0, "names")
    for index, name in enumerate(names):
        if name is not None and not is_name(name):
            raise BadNames(index, "name")


def check_unlike_names(names):
    """Raise BadNames unless it is a list of unlike names, in which nobody stands."""
    if not is_sequence(names) or len(names) > MOST_PLACES:
        raise BadNames(0, "names")
    for index, name in enumerate(names):
        if not is_name(name):
            raise BadNames(index, "name")
        if name in names[:index]:
            raise BadNames(index, "double")


def _first_parting(one, other):
    """The first place of both rows at which their numbers differ, or None."""
    for place, (entry, other_entry) in enumerate(zip(one, other)):
        if entry != other_entry:
            return place
    return None


def first_difference(pattern, names):
    """The first place up to which the row does not show the pattern, or None."""
    check_names(names)
    if len(names) != len(pattern.entries):
        raise BadNames(len(names), "length")
    return _first_parting(pattern.entries, numbered(names))


def names_for(pattern, names):
    """The name of index k at each place of class k, None at nobody's."""
    check_unlike_names(names)
    if len(names) < pattern.class_count:
        raise BadNames(len(names), "few")
    return tuple([None if entry is None else names[entry] for entry in pattern.entries])


def renaming_of(one, other):
    """Pairs (name of one, name of other) of the change that leads one to other."""
    check_names(one)
    check_names(other)
    place = _first_parting(numbered(one), numbered(other))
    if place is not None:
        raise NoRenaming(place)
    if len(one) != len(other):
        raise NoRenaming(min(len(one), len(other)))
    pairs = {}
    for name, other_name in zip(one, other):
        if name is not None:
            pairs[name] = other_name
    return tuple([(name, pairs[name]) for name in pairs])
