"""A custom is read back from its text."""

from namesakes.clauses import MOST_CONDITIONS, Alive, Dead, Free, Never, Number, Take, Unborne, Unlike
from namesakes.clauses import is_bar, is_source, reads_beyond
from namesakes.customs import MOST_CLAUSES, Custom
from namesakes.errors import BadText
from namesakes.records import MOST_WIDTH, PARENT_KIND, is_way

DIGITS = "0123456789"


def parse_custom(text):
    """The custom whose text this is."""
    if not isinstance(text, str):
        raise BadText(0, "text")
    rows = text.split("\n")
    _check_head(rows, 0, "custom")
    _check_head(rows, 1, "sons")
    sons = _clauses_at(rows, 2)
    second = 2 + len(sons)
    _check_head(rows, second, "daughters")
    daughters = _clauses_at(rows, second + 1)
    end = second + 1 + len(daughters)
    house = []
    weddings = [None, None]
    if end < len(rows):
        house = _house_of(rows[end])
        if house is None:
            raise BadText(end + 1, "house")
        weddings = [_wedding_at(rows, end + 1, "sons wed ", len(house))]
        weddings.append(_wedding_at(rows, end + 2, "daughters wed ", len(house)))
        if len(rows) > end + 3:
            raise BadText(end + 4, "end")
    _check_width(sons, 2, len(house))
    _check_width(daughters, second + 1, len(house))
    return Custom(sons, daughters, house=house, son_weds=weddings[0], daughter_weds=weddings[1])


def _check_head(rows, place, head):
    if place >= len(rows) or rows[place] != head:
        raise BadText(place + 1, "head")


def _clauses_at(rows, start):
    """The clauses from this place on, to the first Free."""
    clauses = []
    for place in range(start, start + MOST_CLAUSES):
        clause = _clause_of(rows[place]) if place < len(rows) else None
        is_fifth_take = isinstance(clause, Take) and len(clauses) == MOST_CLAUSES - 1
        if clause is None or is_fifth_take:
            raise BadText(place + 1, "clause")
        clauses.append(clause)
        if isinstance(clause, Free):
            break
    return clauses


def _clause_of(row):
    """The clause that the row tells, or None."""
    if row == "free":
        return Free()
    if row.startswith("free not "):
        bars = row.removeprefix("free not ").split(", ")
        right = len(bars) <= MOST_CONDITIONS and all([is_bar(bar) for bar in bars])
        return Free(*bars) if right else None
    head, mark, rest = row.partition(" if ")
    source = head.removeprefix("take ")
    if not head.startswith("take ") or not is_source(source):
        return None
    if not mark:
        return Take(source)
    conditions = [_condition_of(part.split(" ")) for part in rest.split(", ")]
    if len(conditions) > MOST_CONDITIONS or not all([condition is not None for condition in conditions]):
        return None
    return Take(source, *conditions)


def _condition_of(words):
    """The condition that these words tell, or None."""
    head, places = words[0], words[1:]
    if not places:
        return {"unborne": Unborne(), "never": Never()}.get(head)
    if head == "unlike":
        right = len(places) == 2 and is_source(places[0]) and is_source(places[1])
        return Unlike(places[0], places[1]) if right else None
    if len(places) > 1:
        return None
    if head == "number":
        return Number(int(places[0])) if places[0] in ("1", "2", "3", "4") else None
    if not is_way(places[0], 1, 3):
        return None
    if head == "alive":
        return Alive(places[0])
    return Dead(places[0]) if head == "dead" else None


def _house_of(row):
    """The rules of a house row, or None."""
    rules = [tuple(part.split(" ")) for part in row.removeprefix("house ").split(", ")]
    if not row.startswith("house ") or len(rules) > MOST_WIDTH:
        return None
    found = []
    for rule in rules:
        if len(rule) == 2 and rule[0] == "given" and rule[1] in PARENT_KIND:
            found.append(rule)
        elif len(rule) == 2 and rule[0] in PARENT_KIND and _is_digit_below(rule[1], len(rules)):
            found.append((rule[0], int(rule[1])))
        else:
            return None
    return found


def _is_digit_below(word, width):
    return len(word) == 1 and word in DIGITS[:width]


def _wedding_at(rows, place, head, width):
    """The entries of the wedding row that must stand at this place."""
    if place >= len(rows) or not rows[place].startswith(head):
        raise BadText(place + 1, "wedding")
    words = rows[place].removeprefix(head).split(", ")
    if len(words) != width or not all([word == "own" or _is_digit_below(word, width) for word in words]):
        raise BadText(place + 1, "wedding")
    return [word if word == "own" else int(word) for word in words]


def _check_width(clauses, start, width):
    for place, clause in enumerate(clauses):
        if reads_beyond(clause, width):
            raise BadText(start + place + 1, "width")
