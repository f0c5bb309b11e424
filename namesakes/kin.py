"""Kin: who is whose elder, and by which ways two persons are kin."""

from namesakes.records import WAYS


def ways_to(record, label):
    """Pairs (way, elder) for the ways of 1 to 3 letters that lead to somebody."""
    pairs = [(way, record.elder_of(label, way)) for way in WAYS if way]
    return tuple([(way, elder) for way, elder in pairs if elder is not None])


def _lineage(record, label):
    """A dict with the person itself and all its elders as keys."""
    found = {label: True}
    waiting = [label]
    while waiting:
        person = waiting.pop()
        for elder in (record.father_of(person), record.mother_of(person)):
            if elder is not None and elder not in found:
                found[elder] = True
                waiting.append(elder)
    return found


def elders_of(record, label):
    """All elders at any distance, in the order of persons."""
    record.check_person(label)
    lineage = _lineage(record, label)
    return tuple([person for person in record.persons if person in lineage and person != label])


def are_kin(record, one, other):
    """Whether the two are one person, elder and younger, or have a common elder."""
    record.check_person(one)
    record.check_person(other)
    lineage = _lineage(record, one)
    return any([person in lineage for person in _lineage(record, other)])


def kinship_of(record, one, other):
    """The nearest pair (way, back) to a common person, or None."""
    pairs = []
    for place, way in enumerate(WAYS):
        for back_place, back in enumerate(WAYS):
            elder = record.elder_of(one, way)
            if elder is not None and elder == record.elder_of(other, back):
                pairs.append((len(way) + len(back), place, back_place))
    if not pairs:
        return None
    # The ways stand by their length and then by their letters, so the place
    # of a way among them tells both at once.
    least = min(pairs)
    return (WAYS[least[1]], WAYS[least[2]])


def kin_weddings(record):
    """The pairs who wed and are kin, in the order of the weddings."""
    # The lineage of each person is one number with a bit for each member:
    # walking up again for each wedding would take too long in a long record.
    lineages = {}
    for place, label in enumerate(record.persons):
        lineages[label] = 1 << place
        father, mother = record.father_of(label), record.mother_of(label)
        if father is not None:
            lineages[label] = lineages[label] | lineages[father] | lineages[mother]
    return tuple([pair for pair in record.weddings if lineages[pair[0]] & lineages[pair[1]]])
