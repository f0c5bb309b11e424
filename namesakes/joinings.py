"""Joinings: two patterns side by side, and which of their classes are alike."""

from math import comb, perm

from namesakes.errors import BadClass, BadIndex, BadJoining, BadMatch
from namesakes.patterns import MOST_PLACES, Pattern, numbered
from namesakes.records import is_sequence, is_whole


def _check_links(one, other, links):
    if not is_sequence(links) or len(links) != other.class_count:
        raise BadJoining(0, "links")
    for index, link in enumerate(links):
        if link is not None and not is_whole(link, 0, one.class_count - 1):
            raise BadJoining(index, "link")
        if link is not None and link in links[:index]:
            raise BadJoining(index, "double")


def _check_places(one, other):
    if len(one.entries) + len(other.entries) > MOST_PLACES:
        raise BadJoining(0, "places")


class Joining:
    """Two patterns and, for each class of other, the class of one that is alike."""

    def __init__(self, one, other, links):
        if not isinstance(one, Pattern):
            raise BadJoining(0, "one")
        if not isinstance(other, Pattern):
            raise BadJoining(0, "other")
        _check_places(one, other)
        _check_links(one, other, links)
        self.one = one
        self.other = other
        self.links = tuple(links)
        self._numbers = _joined_numbers(one.class_count, links)
        entries = [None if entry is None else self._numbers[entry] for entry in other.entries]
        self.joined = Pattern(one.entries + tuple(entries))

    def number_in(self, number):
        """The number in the joined pattern of a class of other."""
        if not is_whole(number, 0, len(self.links) - 1):
            raise BadClass(number)
        return self._numbers[number]

    @property
    def link_count(self):
        """The number of links."""
        return len([link for link in self.links if link is not None])

    def turned(self):
        """The joining of other and one with the same links."""
        links = [None] * self.one.class_count
        for number, link in enumerate(self.links):
            if link is not None:
                links[link] = number
        return Joining(self.other, self.one, links)

    def __eq__(self, other):
        return (
            type(self) is type(other)
            and self.one == other.one
            and self.other == other.other
            and self.links == other.links
        )


def _joined_numbers(classes, links):
    """The number in the joined pattern of each class that has one of these links."""
    numbers = []
    for link in links:
        numbers.append(classes if link is None else link)
        if link is None:
            classes += 1
    return numbers


def all_joinings(one, other):
    """All joinings of the two patterns, in order."""
    links = [None] * other.class_count
    while links is not None:
        yield Joining(one, other, links)
        links = _links_behind(links, one.class_count)


def _links_behind(links, classes):
    """The links of the next joining, or None behind the last one."""
    for place in reversed(range(len(links))):
        lowest = 0 if links[place] is None else links[place] + 1
        higher = [number for number in range(lowest, classes) if number not in links[:place]]
        if higher:
            return links[:place] + [higher[0]] + [None] * (len(links) - place - 1)
    return None


def _how_many_links(one_classes, other_classes):
    """In how many ways classes of both sides can be linked one to one."""
    most = min(one_classes, other_classes)
    return sum([perm(one_classes, many) * comb(other_classes, many) for many in range(most + 1)])


def how_many_joinings(one, other):
    """The number of joinings, also of patterns of too many places together."""
    return _how_many_links(one.class_count, other.class_count)


def joining_index(joining):
    """The number of the joining among all of its two patterns, from 0."""
    free = list(range(joining.one.class_count))
    index = 0
    for place, link in enumerate(joining.links):
        left = len(joining.links) - place - 1
        if link is not None:
            index += _how_many_links(len(free), left)
            index += free.index(link) * _how_many_links(len(free) - 1, left)
            free.remove(link)
    return index


def joining_at(one, other, index):
    """The joining of this number among all of the two patterns."""
    if not is_whole(index, 0, how_many_joinings(one, other) - 1):
        raise BadIndex(index)
    free = list(range(one.class_count))
    links = []
    for left in reversed(range(other.class_count)):
        unlinked = _how_many_links(len(free), left)
        if index < unlinked:
            links.append(None)
        else:
            rank, index = divmod(index - unlinked, _how_many_links(len(free) - 1, left))
            links.append(free.pop(rank))
    return Joining(one, other, links)


def apart_joining(one, other):
    """The joining without links."""
    return Joining(one, other, [None] * other.class_count)


def joining_of(one, other, pattern):
    """The joining of the two patterns whose joined pattern this is."""
    middle = len(one.entries)
    if len(pattern.entries) != middle + len(other.entries):
        raise BadMatch("places")
    if pattern.entries[:middle] != one.entries:
        raise BadMatch("one")
    entries = pattern.entries[middle:]
    if tuple(numbered(entries)) != other.entries:
        raise BadMatch("other")
    return Joining(one, other, _links_of(one, other, entries))


def _links_of(one, other, entries):
    """The links, if the places of other have these entries of a joined pattern."""
    links = [None] * other.class_count
    for number, entry in zip(other.entries, entries):
        if number is not None and entry < one.class_count:
            links[number] = entry
    return links


def joining_of_names(one_names, other_names):
    """The joining of two rows' patterns in which equal names are linked."""
    one, other = Pattern.of_names(one_names), Pattern.of_names(other_names)
    numbers = numbered(tuple(one_names) + tuple(other_names))
    return Joining(one, other, _links_of(one, other, numbers[len(one_names):]))


def all_joined(patterns):
    """All patterns that show each of these side by side, in order."""
    # Patterns without places change nothing; without them the list is short
    # enough to go through it pattern by pattern from the last one.
    some = [pattern for pattern in patterns if len(pattern.entries) > 0]
    if not some:
        yield Pattern(())
    else:
        ahead = some[:-1]
        last = some[-1]
        for pattern in all_joined(ahead):
            for joining in all_joinings(pattern, last):
                yield joining.joined


def how_many_joined(patterns):
    """The number of patterns that show each of these side by side."""
    # Entry k of the list counts those that have k classes so far. A further
    # class is a new one, or it is linked with one of those classes that no
    # earlier class of its own pattern is linked with or has brought. Where
    # there are fewer classes than those, the count is 0.
    counts = [1]
    for pattern in patterns:
        for taken in range(pattern.class_count):
            linked = [(classes - taken) * count for classes, count in enumerate(counts)] + [0]
            counts = [more + count for more, count in zip(linked, [0] + counts)]
    return sum(counts)
