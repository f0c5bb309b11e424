"""All patterns of a size in their order, and the rows of names that show one."""

from namesakes.errors import BadCount, BadIndex, BadMatch
from namesakes.patterns import MOST_PLACES, Pattern, check_unlike_names
from namesakes.records import is_whole

MOST_POOL = 10 ** 6


def _check_size(size):
    if not is_whole(size, 0, MOST_PLACES):
        raise BadCount(size)


def _ways_on(size, nobody):
    """Lists by places left, by classes so far: in how many ways a pattern goes on."""
    none = 1 if nobody else 0
    table = [[1] * (size + 1)]
    for left in range(1, size + 1):
        shorter = table[-1]
        table.append([(none + seen) * shorter[seen] + shorter[seen + 1] for seen in range(size + 1 - left)])
    return table


def all_patterns(size, *, nobody=False):
    """All patterns of this size, in order."""
    _check_size(size)
    entries = [None if nobody else 0] * size
    while entries is not None:
        yield Pattern(entries)
        entries = _entries_behind(entries, nobody)


def _entries_behind(entries, nobody):
    """The entries of the next pattern, or None behind the last one."""
    lowest = None if nobody else 0
    for place in reversed(range(len(entries))):
        entry = entries[place]
        classes = 1 + max([other for other in entries[:place] if other is not None], default=-1)
        if entry is None or entry < classes:
            higher = 0 if entry is None else entry + 1
            return entries[:place] + [higher] + [lowest] * (len(entries) - place - 1)
    return None


def how_many_patterns(size, *, nobody=False):
    """The number of all patterns of this size."""
    _check_size(size)
    return _ways_on(size, nobody)[size][0]


def pattern_index(pattern, *, nobody=False):
    """The number of the pattern among all of its size, from 0."""
    if not nobody and None in pattern.entries:
        raise BadMatch("nobody")
    ways = _ways_on(len(pattern.entries), nobody)
    index = 0
    classes = 0
    for place, entry in enumerate(pattern.entries):
        left = len(pattern.entries) - place - 1
        if entry is not None:
            # So many entries stand ahead of this one, and none of them brings a class.
            ahead = entry + (1 if nobody else 0)
            index += ahead * ways[left][classes]
            classes = max(classes, entry + 1)
    return index


def pattern_at(size, index, *, nobody=False):
    """The pattern of this number among all of its size."""
    _check_size(size)
    ways = _ways_on(size, nobody)
    if not is_whole(index, 0, ways[size][0] - 1):
        raise BadIndex(index)
    entries = []
    classes = 0
    for place in range(size):
        each = ways[size - place - 1][classes]
        # Only the last of the entries that can stand here, a new class, is
        # followed by another number of patterns than the others.
        ahead = min(index // each, classes + (1 if nobody else 0))
        index = index - ahead * each
        entry = ahead - 1 if nobody else ahead
        entries.append(None if entry < 0 else entry)
        classes = max(classes, entry + 1)
    return Pattern(entries)


def how_many_rows(pattern, pool):
    """How many rows of names out of a pool of so many unlike ones show the pattern."""
    if not is_whole(pool, 0, MOST_POOL):
        raise BadCount(pool)
    rows = 1
    for used in range(pattern.class_count):
        rows = rows * max(0, pool - used)
    return rows


def name_rows(pattern, names):
    """The rows of these unlike names that show the pattern, in order."""
    check_unlike_names(names)
    chosen = list(range(pattern.class_count)) if pattern.class_count <= len(names) else None
    while chosen is not None:
        yield tuple([None if entry is None else names[chosen[entry]] for entry in pattern.entries])
        chosen = _choice_behind(chosen, len(names))


def _choice_behind(chosen, many):
    """The next row of as many unlike indices below many, or None behind the last one."""
    for place in reversed(range(len(chosen))):
        free = [index for index in range(many) if index not in chosen[:place]]
        higher = [index for index in free if index > chosen[place]]
        if higher:
            rest = [index for index in free if index != higher[0]]
            return chosen[:place] + [higher[0]] + rest[:len(chosen) - place - 1]
    return None
