"""Rooms of machines: the least ones that let the same words."""

# Those of the machine that lets nothing.
NOTHING = ((False, None, None),)


def least_rooms(rooms):
    """The rooms of the least machine that lets the same words, numbered as they are first met."""
    useful = _useful_rooms(rooms)
    trimmed = []
    for is_end, son, daughter in rooms:
        trimmed.append((is_end, _if_useful(useful, son), _if_useful(useful, daughter)))
    return _numbered_rooms(trimmed, _groups(trimmed))


def _if_useful(useful, room):
    return room if room is not None and useful[room] else None


def _useful_rooms(rooms):
    """For each room whether an end can be reached from it."""
    ahead = [[] for _ in rooms]
    for number, (_, son, daughter) in enumerate(rooms):
        for room in (son, daughter):
            if room is not None:
                ahead[room].append(number)
    useful = [is_end for is_end, _, _ in rooms]
    waiting = [number for number, is_end in enumerate(useful) if is_end]
    while waiting:
        room = waiting.pop()
        for number in ahead[room]:
            if not useful[number]:
                useful[number] = True
                waiting.append(number)
    return useful


def _groups(rooms):
    """For each room the number of its group; rooms of one group let the same words from there on."""
    groups = [1 if is_end else 0 for is_end, _, _ in rooms]
    many = 0
    while many < len(set(groups)):
        many = len(set(groups))
        numbers = {}
        finer = []
        for number, (_, son, daughter) in enumerate(rooms):
            look = (groups[number], _group_at(groups, son), _group_at(groups, daughter))
            if look not in numbers:
                numbers[look] = len(numbers)
            finer.append(numbers[look])
        groups = finer
    return groups


def _group_at(groups, room):
    return None if room is None else groups[room]


def _numbered_rooms(rooms, groups):
    """One room for each group that is met from room 0 on, numbered as they are met."""
    numbers = {groups[0]: 0}
    met = [0]
    found = []
    while len(found) < len(met):
        is_end, son, daughter = rooms[met[len(found)]]
        doors = []
        for room in (son, daughter):
            if room is not None and groups[room] not in numbers:
                numbers[groups[room]] = len(met)
                met.append(room)
            doors.append(None if room is None else numbers[groups[room]])
        found.append((is_end, doors[0], doors[1]))
    return tuple(found)
