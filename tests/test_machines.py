"""Machines [7.6], [7.7]."""

import itertools
import random

from namesakes.errors import BadLength, BadWord, TooWide
from namesakes.lengths import Lengths
from namesakes.machines import Machine
from namesakes.rooms import least_rooms
from tests.checks import Checks
from tests.families import ODD_THINGS, AlwaysEqual

NOTHING = Machine(((False, None, None),))
EMPTY_WORD = Machine(((True, None, None),))
EVERYTHING = Machine(((True, 0, 0),))
EVEN_SONS = Machine(((True, 1, None), (False, 0, None)))
# Words that end in a daughter.
DAUGHTERS = Machine(((False, 0, 1), (True, 0, 1)))
WORDS = ["".join(word) for many in range(8) for word in itertools.product("sd", repeat=many)]


def chance_rooms(rng, many):
    doors = list(range(many)) + [None] * max(1, many // 2)
    return tuple((rng.random() < 0.3, rng.choice(doors), rng.choice(doors)) for _ in range(many))


def plain_lets(rooms, word):
    room = 0
    for letter in word:
        room = None if room is None else rooms[room]["sd".index(letter) + 1]
    return room is not None and rooms[room][0]


def words_of(machine):
    return [word for word in WORDS if plain_lets(machine.rooms, word)]


class MachineTest(Checks):
    def hold_least(self, machine):
        """From each room an end can be reached, no two let the same, and they are numbered as they are met."""
        rooms = machine.rooms
        self.assertIs(type(rooms), tuple)
        self.assertTrue(all(type(room) is tuple and type(room[0]) is bool for room in rooms))
        if rooms == NOTHING.rooms:
            return
        sets = []
        for start in range(len(rooms)):
            turned = [start] + [room for room in range(len(rooms)) if room != start]
            moved = tuple((rooms[room][0], *[None if door is None else turned.index(door) for door in rooms[room][1:]]) for room in turned)
            sets.append(tuple(word for word in WORDS if plain_lets(moved, word)))
        if len(rooms) < 8:
            self.assertTrue(all(sets))
            self.assertEqual(len(set(sets)), len(sets))
        met = [0]
        for room in rooms:
            met += [door for door in room[1:] if door is not None and door not in met]
        self.assertEqual(met, sorted(met))
        self.assertEqual(set(met), set(range(len(rooms))))

    def test_it_keeps_its_rooms(self):
        rooms = ((True, None, 0),)
        for machine in (Machine(rooms), Machine(rooms=rooms)):
            self.assertIs(machine.rooms, rooms)
            self.assertEqual(len(machine), 1)
        self.assertEqual(len(EVEN_SONS), 2)

    def test_lets(self):
        for machine, words in ((NOTHING, []), (EMPTY_WORD, [""]), (EVERYTHING, WORDS), (EVEN_SONS, ["", "ss", "ssss", "ssssss"]),
                               (DAUGHTERS, [word for word in WORDS if word.endswith("d")])):
            self.assertEqual([word for word in WORDS if machine.lets(word)], words)
            self.assertEqual([word for word in WORDS if word in machine], words)
            self.assertIs(machine.lets(""), "" in words)
            self.assertIs("s" in machine, "s" in words)
        self.assertTrue(EVEN_SONS.lets("s" * 4000))
        self.assertFalse(EVEN_SONS.lets("s" * 4001))
        self.assertIn("s" * 300 + "d", DAUGHTERS)

    def test_no_words(self):
        for machine in (NOTHING, EVERYTHING):
            for thing in [thing for thing in ODD_THINGS if thing != ""] + ["x", "sdS", "s d", "f", b"sd", ["s"], ("s", "d"), "sdm", AlwaysEqual(), 1]:
                self.refused(BadWord, (thing,), machine.lets, thing)
                self.refused(BadWord, (thing,), lambda: thing in machine)

    def test_how_many(self):
        self.assertEqual([NOTHING.how_many(n) for n in range(4)], [0] * 4)
        self.assertEqual([EMPTY_WORD.how_many(n) for n in range(4)], [1, 0, 0, 0])
        self.assertEqual([EVEN_SONS.how_many(n) for n in range(5)], [1, 0, 1, 0, 1])
        self.assertEqual((EVERYTHING.how_many(200), DAUGHTERS.how_many(200), EVEN_SONS.how_many(199)), (2 ** 200, 2 ** 199, 0))
        for thing in ODD_THINGS + (-1, 201, 10 ** 30, AlwaysEqual()):
            self.refused(BadLength, (thing,), EVEN_SONS.how_many, thing)

    def test_words_let(self):
        self.assertEqual(list(NOTHING.words_let(200)), [])
        self.assertEqual(list(EMPTY_WORD.words_let(200)), [""])
        self.assertEqual(list(EMPTY_WORD.words_let(0)), [""])
        self.assertEqual(list(DAUGHTERS.words_let(0)), [])
        self.assertEqual(list(EVERYTHING.words_let(7)), WORDS)
        self.assertEqual(list(DAUGHTERS.words_let(3)), ["d", "sd", "dd", "ssd", "sdd", "dsd", "ddd"])
        self.assertEqual(list(EVEN_SONS.words_let(200)), ["s" * n for n in range(0, 201, 2)])
        for thing in ODD_THINGS + (-1, 201, 10 ** 30, AlwaysEqual()):
            self.refused(BadLength, (thing,), lambda: list(EVEN_SONS.words_let(thing)))
        generator = EVERYTHING.words_let(200)
        self.assertIs(iter(generator), generator)
        self.assertEqual([next(generator) for _ in range(5)], ["", "s", "d", "ss", "sd"])

    def test_it_goes_by_beginnings_of_such_words_alone(self):
        # Behind s anything goes on, but to an end only with 251 letters or more.
        rooms = ((False, 2, 1), (True, None, None)) + tuple((False, n + 1, n + 1) for n in range(2, 252)) + ((True, None, None),)
        self.assertEqual(list(Machine(rooms).words_let(200)), ["d"])
        # The 61st letter of a word of sixty-two is the first that counts.
        rooms = tuple((False, n + 1, n + 1) for n in range(60)) + ((False, 61, None), (True, None, None))
        generator = Machine(rooms).words_let(61)
        self.assertEqual([next(generator) for _ in range(3)], ["s" * 61, "s" * 59 + "ds", "s" * 58 + "dss"])

    def test_first_words(self):
        for machine, word in ((NOTHING, None), (EMPTY_WORD, ""), (EVEN_SONS, ""), (DAUGHTERS, "d")):
            self.assertEqual(machine.first_word, word)
        self.assertIsInstance(vars(Machine)["first_word"], property)
        long = Machine(tuple((False, n + 1, None) for n in range(500)) + ((True, None, None),))
        self.assertEqual(long.first_word, "s" * 500)

    def test_the_first_parting_word(self):
        for one, other, word in ((NOTHING, NOTHING, None), (EVEN_SONS, EVEN_SONS, None), (NOTHING, EMPTY_WORD, ""), (EMPTY_WORD, EVERYTHING, "s"),
                                 (EVEN_SONS, EVERYTHING, "s"), (EMPTY_WORD, EVEN_SONS, "ss"), (DAUGHTERS, EVERYTHING, ""), (NOTHING, DAUGHTERS, "d")):
            self.assertEqual((one.parting_word(other), other.parting_word(one)), (word, word))

    def test_lengths(self):
        for machine, told in ((NOTHING, Lengths((), 0, 1, ())), (EMPTY_WORD, Lengths((0,), 1, 1, ())), (EVERYTHING, Lengths((), 0, 1, (0,))),
                              (EVEN_SONS, Lengths((), 0, 2, (0,))), (DAUGHTERS, Lengths((), 1, 1, (0,)))):
            self.assertEqual(machine.lengths(), told)
        ring = Machine(tuple((n in (0, 4), (n + 1) % 6, None) for n in range(6)))
        self.assertEqual(ring.lengths(), Lengths((), 0, 6, (0, 4)))
        # s leads to a ring of three, d to a ring of four.
        rooms = ((False, 1, 4), (True, 2, None), (False, 3, None), (False, 1, None), (True, 5, None), (False, 6, None), (False, 7, None), (False, 4, None))
        self.assertEqual([n for n in range(14) if n in Machine(rooms).lengths()], [1, 4, 5, 7, 9, 10, 13])

    def ring(self, many):
        return Machine(tuple((n == 0, (n + 1) % many, None) for n in range(many)))

    def test_rounds(self):
        self.assertEqual(self.ring(5000).lengths(), Lengths((), 0, 5000, (0,)))
        self.refused(TooWide, ("rounds",), self.ring(10500).lengths)
        tail = Machine(tuple((False, n + 1, None) for n in range(11000)) + ((True, None, None),))
        self.refused(TooWide, ("rounds",), tail.lengths)
        short = Machine(tuple((False, n + 1, None) for n in range(5000)) + ((True, None, None),))
        self.assertEqual(short.lengths(), Lengths((5000,), 5001, 1, ()))

    def test_equality(self):
        self.assertEqual(EVEN_SONS, Machine(((True, 1, None), (False, 0, None))))
        self.unlike_all(EVEN_SONS, DAUGHTERS, NOTHING, EVEN_SONS.rooms, None)

    def test_union_and_meeting(self):
        self.assertEqual((NOTHING | NOTHING, NOTHING & EVERYTHING, EVEN_SONS & DAUGHTERS), (NOTHING,) * 3)
        self.assertEqual((NOTHING | EVEN_SONS, EVEN_SONS & EVERYTHING, EVEN_SONS | EMPTY_WORD, EVEN_SONS | EVEN_SONS), (EVEN_SONS,) * 4)
        self.assertEqual(EVEN_SONS & EMPTY_WORD, EMPTY_WORD)
        self.assertEqual((DAUGHTERS | EMPTY_WORD).rooms, ((True, 1, 0), (False, 1, 0)))
        self.assertEqual(EVERYTHING | DAUGHTERS, EVERYTHING)

    def test_by_chance_all_of_it(self):
        rng = random.Random(92)
        for _ in range(250):
            one, other = Machine(chance_rooms(rng, rng.randint(1, 5))), Machine(chance_rooms(rng, rng.randint(1, 5)))
            words, other_words = words_of(one), words_of(other)
            self.assertEqual([word for word in WORDS if one.lets(word)], words)
            self.assertEqual(list(one.words_let(7)), words)
            self.assertEqual([one.how_many(n) for n in range(8)], [sum(len(word) == n for word in words) for n in range(8)])
            both, either = one & other, one | other
            self.assertEqual(words_of(both), [word for word in words if word in other_words])
            self.assertEqual(words_of(either), [word for word in WORDS if word in words or word in other_words])
            for machine in (both, either):
                self.hold_least(machine)
            lengths = one.lengths()
            self.assertEqual([n in lengths for n in range(40)], [one.how_many(n) > 0 for n in range(40)])
            self.hold_partings(one, other, words, other_words)

    def hold_partings(self, one, other, words, other_words):
        parted = [word for word in WORDS if (word in words) != (word in other_words)]
        if parted:
            self.assertEqual(one.parting_word(other), parted[0])
        if words:
            self.assertEqual(one.first_word, words[0])
        if one.first_word is None:
            self.assertEqual(one | NOTHING, NOTHING)
        self.assertEqual((one | NOTHING) == (other | NOTHING), one.parting_word(other) is None)

    def test_least_rooms(self):
        self.assertEqual(least_rooms([(False, 1, 2), (False, None, 1), (False, 0, None)]), NOTHING.rooms)
        # The first and the third room let the same, the fifth is never met, and the second leads nowhere.
        rooms = [(True, 2, 1), (False, 1, 1), (True, 0, 1), (False, None, None), (False, 0, 0)]
        self.assertEqual(least_rooms(rooms), ((True, 0, None),))
        self.assertEqual(least_rooms([(False, 2, 1), (True, None, None), (True, None, 0)]), ((False, 1, 2), (True, None, 0), (True, None, None)))
