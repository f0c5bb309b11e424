"""Words of the two lines that lead to kin who have one name."""

from namesakes.carriers import Carriers, line_machine
from namesakes.fresh import check_ways
from namesakes.machines import check_word
from namesakes.rooms import NOTHING


class KinWords:
    """Triples (elder, younger, living) of machines of both lines below a parting person."""

    def __init__(self, half, products):
        self.half = half
        self.products = products

    def lets(self, one, other, *, living=False):
        """Whether two such persons at the ends of these lines can have one name."""
        check_word(one)
        check_word(other)
        for elder, younger, both_live in self.products:
            for first, second in ((one, other), (other, one)):
                # An elder child that is dead by then can still have living offspring.
                counts = both_live or not living or len(first) > 1
                if counts and elder.lets(first) and younger.lets(second):
                    return True
        return False


def kin_words(custom, *, half=False):
    """The words below the parting person of full kin, or of half kin, with one name."""
    check_ways(custom)
    carriers = Carriers(custom)
    triples = half_triples(carriers) if half else full_triples(carriers)
    machines = {}
    found = {}
    for elder, younger, living in triples:
        for branch in (elder, younger):
            if branch not in machines:
                machines[branch] = branch_machine(carriers, branch)
        key = (machines[elder].rooms, machines[younger].rooms)
        if NOTHING not in key:
            known = found.get(key)
            found[key] = (machines[elder], machines[younger], living or known is not None and known[2])
    return KinWords(half, tuple([found[key] for key in found]))


def branch_machine(carriers, branch):
    """The machine of the words that begin as the branch tells: (carriers behind s, carriers behind d)."""
    return line_machine(carriers, False, branch[0], branch[1])


def _branch_of_child(carriers, child):
    """The branch that begins with this carrier alone."""
    return ((child,), ()) if carriers.members[child][0] == "s" else ((), (child,))


def half_triples(carriers):
    """The branches behind each carrier, by one mate and by another one."""
    found = []
    for number in range(len(carriers.members)):
        branch = (carriers.children_of((number,), "s"), carriers.children_of((number,), "d"))
        found.append((branch, branch, True))
    return found


def full_triples(carriers):
    """The branches of two children of one couple who both carry one of its classes on."""
    found = {}
    for _, _, couple in carriers.world.couples:
        for elder, younger, living in child_pairs(couple):
            for number in range(couple.classes):
                one = carriers.child_at(couple, elder[0], elder[1], number)
                other = carriers.child_at(couple, younger[0], younger[1], number)
                if one is not None and other is not None:
                    found[_branch_of_child(carriers, one), _branch_of_child(carriers, other), living] = True
    return list(found)


def child_pairs(couple):
    """All (elder, younger, living) of two children (kind, name) of a couple.

    Living tells that the elder one lives when the younger one is born.
    """
    found = {}
    for key in couple.situations:
        for deed, behind in couple.situations[key].deeds:
            if deed[0] == "born":
                elder = (deed[1], deed[2])
                for living in (True, False):
                    for younger in births_behind(couple, behind, elder[1] if living else None):
                        found[elder, younger, living] = True
    return list(found)


def births_behind(couple, key, spared):
    """The children (kind, name) that can be born from this situation on; no bearer of the spared class dies."""
    found = {}
    met = {key: True}
    waiting = [key]
    while waiting:
        situation = couple.situations[waiting.pop()]
        for deed, behind in situation.deeds:
            if deed[0] == "born":
                found[deed[1], deed[2]] = True
            if behind not in met and deed != ("bearers", spared):
                met[behind] = True
                waiting.append(behind)
    return list(found)
