"""Machines: sets of words of the letters s and d, told by rooms."""

from namesakes.errors import BadLength, BadWord, TooWide
from namesakes.lengths import least_lengths
from namesakes.records import KINDS, is_whole
from namesakes.rooms import least_rooms

MOST_LETTERS = 200
MOST_ROUNDS = 10000


def check_word(word):
    """Raise BadWord unless it is a string of letters s and d."""
    if not isinstance(word, str) or not all([letter in KINDS for letter in word]):
        raise BadWord(word)


def _check_length(length):
    if not is_whole(length, 0, MOST_LETTERS):
        raise BadLength(length)


class Machine:
    """Rooms (is_end, son, daughter); reading begins in room 0."""

    def __init__(self, rooms):
        self.rooms = rooms

    def lets(self, word):
        """Whether each letter leads on and the last room is an end."""
        check_word(word)
        room = 0
        for letter in word:
            room = self.rooms[room][1 if letter == "s" else 2]
            if room is None:
                return False
        return self.rooms[room][0]

    def how_many(self, length):
        """The number of words of this length that are let."""
        _check_length(length)
        counts = [1 if is_end else 0 for is_end, _, _ in self.rooms]
        for _ in range(length):
            counts = [_sum_at(counts, son, daughter) for _, son, daughter in self.rooms]
        return counts[0]

    def words_let(self, most):
        """All words let of at most so many letters, in order."""
        _check_length(most)
        # Entry n tells from which rooms some word of just n letters leads to an end.
        reach = [[is_end for is_end, _, _ in self.rooms]]
        for length in range(most):
            before = reach[length]
            reach.append([_sum_at(before, son, daughter) > 0 for _, son, daughter in self.rooms])
        for length in range(most + 1):
            waiting = [("", 0)] if reach[length][0] else []
            while waiting:
                word, room = waiting.pop()
                if len(word) == length:
                    yield word
                else:
                    waiting.extend(_doors(self.rooms[room], word, reach[length - len(word) - 1]))

    @property
    def first_word(self):
        """The first word let, or None."""
        return _first_parting(self.rooms, ((False, None, None),))

    def parting_word(self, other):
        """The first word that exactly one of the two lets, or None."""
        return _first_parting(self.rooms, other.rooms)

    def lengths(self):
        """The lengths of the words let."""
        met = {}
        members = []
        rooms = (0,)
        while rooms not in met:
            if len(met) >= MOST_ROUNDS:
                raise TooWide("rounds")
            met[rooms] = len(members)
            members.append(any([self.rooms[room][0] for room in rooms]))
            behind = [self.rooms[room][door] for room in rooms for door in (1, 2)]
            rooms = tuple(sorted({room for room in behind if room is not None}))
        return least_lengths(members, met[rooms])

    def __contains__(self, word):
        return self.lets(word)

    def __or__(self, other):
        """The machine of what one of the two lets."""
        pairs = _pairs(self.rooms, other.rooms)
        return Machine(least_rooms([(one or two, son, daughter) for one, two, son, daughter in pairs]))

    def __and__(self, other):
        """The machine of what both let."""
        pairs = _pairs(self.rooms, other.rooms)
        return Machine(least_rooms([(one and two, son, daughter) for one, two, son, daughter in pairs]))

    def __eq__(self, other):
        return type(self) is type(other) and self.rooms == other.rooms

    def __len__(self):
        return len(self.rooms)


def _sum_at(counts, son, daughter):
    """The sum of the entries behind both doors; there may be none."""
    return sum([counts[room] for room in (son, daughter) if room is not None])


def _doors(room, word, reach):
    """Pairs (longer word, room) behind the doors from which words go on, s last."""
    found = []
    for letter, behind in (("d", room[2]), ("s", room[1])):
        if behind is not None and reach[behind]:
            found.append((word + letter, behind))
    return found


def _behind(rooms, room, door):
    """The number of the room behind the door; behind nothing is nothing."""
    return None if room is None else rooms[room][door]


def _is_end(rooms, room):
    return room is not None and rooms[room][0]


def _pairs(one, other):
    """(is end of one, of other, son, daughter) for all pairs of rooms that are met side by side."""
    numbers = {(0, 0): 0}
    met = [(0, 0)]
    found = []
    while len(found) < len(met):
        first, second = met[len(found)]
        doors = []
        for door in (1, 2):
            pair = (_behind(one, first, door), _behind(other, second, door))
            if pair not in numbers:
                numbers[pair] = len(met)
                met.append(pair)
            doors.append(numbers[pair])
        found.append((_is_end(one, first), _is_end(other, second), doors[0], doors[1]))
    return found


def _first_parting(one, other):
    """The first word that leads to an end in exactly one of the two, or None."""
    pairs = _pairs(one, other)
    # By which pair and letter each pair is first met: these words are the first ones.
    ways = {0: None}
    for number, (_, _, son, daughter) in enumerate(pairs):
        for letter, behind in (("s", son), ("d", daughter)):
            if behind not in ways:
                ways[behind] = (number, letter)
    for number, (first, second, _, _) in enumerate(pairs):
        if first != second:
            return _word_to(ways, number)
    return None


def _word_to(ways, number):
    letters = []
    while ways[number] is not None:
        number, letter = ways[number]
        letters.append(letter)
    letters.reverse()
    return "".join(letters)
