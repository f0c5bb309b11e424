"""Partings: where the two lines part that lead to kin of one name, and families of such kin."""

from namesakes.descents import Descents, write_child
from namesakes.freshpersons import deeds_to
from namesakes.freshstates import Writing, write_deeds, write_person
from namesakes.kinwords import births_behind


class Kin:
    """Labels of the parting person and of two kin, behind a record."""

    def __init__(self, record, parting, one, other):
        self.record = record
        self.parting = parting
        self.one = one
        self.other = other


class HalfParting:
    """A carrier who hands the name on to two children by two mates."""

    def __init__(self, carrier, one, other, rows):
        self.carrier = carrier
        # The carriers that the children are.
        self.one = one
        self.other = other
        self.rows = rows


def half_kin(carriers, one, other):
    """Half kin at the ends of these lines, or None."""
    descents = (Descents(carriers, one), Descents(carriers, other))
    best = None
    for carrier, (kind, entries, _) in enumerate(carriers.members):
        rows = carriers.world.person(kind, entries).rows
        children = []
        for descent in descents:
            # The first letter leads from the carrier to the child.
            told = descent.layers[0].get(carrier)
            if told is not None:
                rows += told[0]
                children.append(told[1])
        if len(children) == 2 and (best is None or rows < best.rows):
            best = HalfParting(carrier, children[0], children[1], rows)
    return None if best is None else _written_half(carriers, descents, best)


def _written_half(carriers, descents, parting):
    kind, entries, _ = carriers.members[parting.carrier]
    writing = Writing(carriers.world.reads.custom.width)
    label = write_person(writing, carriers.world.person(kind, entries))
    ends = []
    for descent, child in zip(descents, (parting.one, parting.other)):
        handing = carriers.handings(parting.carrier, descent.word[0])[child]
        child_label, mate = write_child(writing, label, kind, handing)
        ends.append(descent.write(writing, 1, child, child_label))
        # The parting person can wed again then.
        writing.die(mate)
    return Kin(writing.finished(), label, ends[0], ends[1])


class FullParting:
    """Two births of a couple by which both children carry one of its classes on."""

    def __init__(self, father, mother, couple, number, situation, births, spared):
        self.father = father
        self.mother = mother
        self.couple = couple
        self.number = number
        # The situation ahead of the elder one's birth.
        self.situation = situation
        # Pairs (kind, name) of the elder and of the younger one.
        self.pair = births
        # The class whose bearers must not die between the births, or None.
        self.spared = spared


def full_kin(carriers, one, other, living):
    """Full kin at the ends of these lines, or None."""
    descents = (Descents(carriers, one), Descents(carriers, other))
    turned = (descents[1], descents[0])
    best, rows = _best_parting(carriers, descents, living)
    back, back_rows = _best_parting(carriers, turned, living)
    if back is not None and (best is None or back_rows < rows):
        kin = _written_full(carriers, turned, back)
        return Kin(kin.record, kin.parting, kin.other, kin.one)
    return None if best is None else _written_full(carriers, descents, best)


def _best_parting(carriers, descents, living):
    """(parting, rows) of a parting with few rows, the elder child's line first, or (None, None)."""
    # An elder child that must die can still have living offspring.
    must_live = living and len(descents[0].word) == 1
    best = None
    fewest = None
    for father, mother, couple in carriers.world.couples:
        for parting in _partings_of(carriers, father, mother, couple, descents, must_live):
            rows = _rows_of(carriers, parting, descents)
            if best is None or rows < fewest:
                best = parting
                fewest = rows
    return best, fewest


def _partings_of(carriers, father, mother, couple, descents, must_live):
    """All partings of a couple from whose two children the lines lead to bearers."""
    found = []
    for key in couple.situations:
        situation = couple.situations[key]
        for deed, behind in situation.deeds:
            if deed[0] == "born":
                elder = (deed[1], deed[2])
                numbers = _numbers_carried(carriers, couple, elder, descents[0])
                spared = elder[1] if must_live else None
                for younger in births_behind(couple, behind, spared) if numbers else []:
                    for number in _numbers_carried(carriers, couple, younger, descents[1]):
                        if number in numbers:
                            births = (elder, younger)
                            found.append(FullParting(father, mother, couple, number, situation, births, spared))
    return found


def _numbers_carried(carriers, couple, birth, descent):
    """The classes of the couple that such a child carries, if the line leads on from it to a bearer."""
    kind, name = birth
    if descent.word[0] != kind:
        return []
    found = []
    for number in range(couple.classes):
        child = carriers.child_at(couple, kind, name, number)
        if child is not None and descent.rows_from(1, child) is not None:
            found.append(number)
    return found


def _rows_of(carriers, parting, descents):
    """How many rows the record of a parting has, but for the deeds between the two births."""
    rows = parting.father.rows + parting.mother.rows + len(deeds_to(parting.situation))
    for descent, birth in zip(descents, parting.pair):
        child = carriers.child_at(parting.couple, birth[0], birth[1], parting.number)
        rows += descent.rows_from(1, child)
    return rows


def _written_full(carriers, descents, parting):
    writing = Writing(carriers.world.reads.custom.width)
    couple = parting.couple
    father = write_person(writing, parting.father)
    mother = write_person(writing, parting.mother)
    writing.wed(father, mother)
    born = write_deeds(writing, father, mother, deeds_to(parting.situation), [])
    ends = []
    deeds = _deeds_between(parting)
    for descent, birth in zip(descents, parting.pair):
        kind, name = birth
        child = carriers.child_at(couple, kind, name, parting.number)
        label = writing.bear(father, mother, kind)
        # The elder child may have to die ahead of the younger one's birth, so its line comes first.
        ends.append(descent.write(writing, 1, child, label))
        born = write_deeds(writing, father, mother, deeds, born + [(label, name)])
        deeds = []
    parent = carriers.parent_at(parting.father, parting.mother, parting.number)
    label = father if carriers.members[parent][0] == "s" else mother
    return Kin(writing.finished(), label, ends[0], ends[1])


def _deeds_between(parting):
    """The fewest deeds behind the elder one's birth that lead to a situation of the younger one's birth."""
    couple = parting.couple
    first = dict(parting.situation.deeds)[("born",) + parting.pair[0]]
    came = {first: None}
    waiting = [first]
    at = 0
    while ("born",) + parting.pair[1] not in dict(couple.situations[waiting[at]].deeds):
        for deed, behind in couple.situations[waiting[at]].deeds:
            if behind not in came and deed != ("bearers", parting.spared):
                came[behind] = (waiting[at], deed)
                waiting.append(behind)
        at += 1
    deeds = []
    key = waiting[at]
    while came[key] is not None:
        key, deed = came[key]
        deeds.append(deed)
    deeds.reverse()
    return deeds
