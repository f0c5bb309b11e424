"""What is read [2.8]."""

import random

from namesakes.clauses import Alive, Dead, Free, Never, Number, Take, Unborne, Unlike
from namesakes.customs import Custom
from namesakes.errors import BadKind, TooWide
from namesakes.reads import Reads, reads_of
from tests.checks import Checks
from tests.families import ODD_THINGS, chance_custom

PLACES = ("", "f", "m", "ff", "fm", "mf", "mm", ".0", ".1")
SOURCES = ("f", "m", "ff", "fm", "mf", "mm", "fff", "ffm", "fmf", "fmm", "mff", "mfm", "mmf", "mmm",
           "f.0", "f.1", "m.0", "m.1")
FREE = [Free()]


def told(reads):
    return tuple([(reads.places(kind), reads.life_ways(kind)) for kind in "sd"] + [reads.tracked, reads.numbered])


class ReadsTest(Checks):
    def test_the_example(self):
        custom = Custom([Take("ff"), Free()], [Take("m.0", Never()), Free()], house=[("f", 0)], daughter_weds=[0])
        reads = reads_of(custom)
        self.assertEqual(told(reads), ((("", "f", ".0"), ()), ((".0",), ()), ("m.0",), ()))
        self.assertIsInstance(reads, Reads)

    def test_nothing_is_read(self):
        self.assertEqual(told(reads_of(Custom(FREE, FREE))), (((), ()), ((), ()), (), ()))
        self.assertEqual(told(reads_of()), (((), ()), ((), ()), (), ()))
        self.assertEqual(told(reads_of(houses=True)), (((), ()), ((), ()), (), ()))
        self.assertEqual(told(reads_of(Custom(FREE, FREE, house=[("f", 0)]))), (((), ()), ((), ()), (), ()))

    def test_every_clause_is_read(self):
        for clauses in ([Take("mf"), Free()], [Take("f", Unlike("f", "mf")), Free()], [Free("mf")],
                        [Take("f", Unlike("mf", "f")), Free()], [Free("living", "mf")]):
            for custom in (Custom(clauses, FREE), Custom(FREE, clauses)):
                reads = reads_of(custom)
                self.assertEqual((reads.places("s"), reads.places("d")), (("",), ("f",)))

    def test_ways_go_back_by_both_kinds(self):
        reads = reads_of(Custom([Take("fmf"), Free()], FREE))
        self.assertEqual((reads.places("s"), reads.places("d")), (("", "mf"), ("f",)))
        reads = reads_of(Custom(FREE, FREE), names=("mmm", "ff"))
        self.assertEqual((reads.places("s"), reads.places("d")), (("", "f"), ("", "m", "mm")))

    def test_house_names_go_back(self):
        rules = {"house": [("m", 1), ("given", "f")], "son_weds": ["own", 0], "daughter_weds": ["own", "own"]}
        reads = reads_of(Custom([Take("f.0"), Free()], FREE, **rules))
        self.assertEqual((reads.places("s"), reads.places("d")), (("", ".0"), (".1",)))
        reads = reads_of(Custom([Take("f.1"), Free()], FREE, **rules))
        self.assertEqual((reads.places("s"), reads.places("d")), (("", ".1"), (".0", ".1")))
        reads = reads_of(Custom([Take("m.1"), Free()], FREE, **rules))
        self.assertEqual((reads.places("s"), reads.places("d")), (("",), (".1",)))

    def test_wedding_rules_of_the_kind_that_is_read(self):
        for weds, other in (("son_weds", "d"), ("daughter_weds", "s")):
            custom = Custom([Take("f.0", Unlike("m.0", "m.0")), Free()], FREE, house=[("f", 0), ("f", 1)], **{weds: [1, "own"]})
            reads = reads_of(custom)
            self.assertIn(".1", reads.places(other))

    def test_several_customs(self):
        one = Custom([Take("f.0"), Free()], FREE, house=[("f", 0)])
        other = Custom(FREE, FREE, house=[("m", 1), ("given", "m")])
        reads = reads_of(one, other)
        self.assertEqual((reads.places("s"), reads.places("d")), ((".0",), ("", ".1")))
        self.assertEqual(reads_of(one, Custom(FREE, FREE)).places("s"), (".0",))
        reads = reads_of(Custom(FREE, FREE), other, houses=True)
        self.assertEqual((reads.places("s"), reads.places("d")), ((".0", ".1"), ("", ".0", ".1")))

    def test_a_house_place_that_no_custom_has(self):
        reads = reads_of(Custom(FREE, FREE), names=["f.1", "f.0", "f", "ff"])
        self.assertEqual((reads.places("s"), reads.places("d")), (("", "f", ".0", ".1"), ()))
        self.assertEqual(reads.too_wide(), "names")

    def test_lives(self):
        custom = Custom([Take("f", Alive("fm"), Dead("m")), Free()], [Take("f", Dead("mmf")), Free()])
        reads = reads_of(custom)
        self.assertEqual((reads.life_ways("s"), reads.life_ways("d")), (("m",), ("f", "mf")))
        reads = reads_of(Custom(FREE, FREE), lives=["fff", "f", "mm"])
        self.assertEqual((reads.life_ways("s"), reads.life_ways("d")), (("f", "ff"), ("m",)))
        self.assertEqual(reads.places("s"), ())

    def test_tracked(self):
        for asking in (Unborne(), Never()):
            custom = Custom([Take("m"), Take("f", Number(1), asking), Free()], FREE)
            self.assertEqual(reads_of(custom).tracked, ("f",))
            self.assertEqual(reads_of(custom.mirrored()).tracked, ("m",))
        for bar in ("living", "ever"):
            custom = Custom([Take("m"), Free()], [Take("ff"), Free("f", bar)])
            self.assertEqual(reads_of(custom).tracked, ("m", "ff"))
            self.assertEqual(reads_of(custom.mirrored()).tracked, ("f", "mm"))
            self.assertEqual(reads_of(Custom([Take("fm"), Free()], FREE), custom).tracked, ("m", "ff"))
        custom = Custom([Take("m", Unlike("f", "ff")), Free("f")], [Take("ff", Number(1)), Free("f")])
        self.assertEqual(reads_of(custom).tracked, ())
        reads = reads_of(custom, tracked=("m.1", "f.0", "mmm", "f", "f"))
        self.assertEqual(reads.tracked, ("f", "mmm", "f.0", "m.1"))
        self.assertEqual(reads.places("d"), ("", "m", "mm", ".1"))

    def test_numbered(self):
        custom = Custom([Take("f", Never(), Number(4)), Free()], [Take("f"), Free()])
        self.assertEqual(reads_of(custom).numbered, ("s",))
        self.assertEqual(reads_of(custom.mirrored()).numbered, ("d",))
        self.assertEqual(reads_of(custom.mirrored(), custom).numbered, ("s", "d"))
        self.assertEqual(reads_of(Custom(FREE, FREE)).numbered, ())

    def test_bad_kinds(self):
        reads = reads_of(Custom(FREE, FREE))
        for thing in ODD_THINGS + ("f", "sd"):
            self.refused(BadKind, (thing,), reads.places, thing)
            self.refused(BadKind, (thing,), reads.life_ways, thing)

    def test_too_wide(self):
        custom = Custom(FREE, FREE)
        for names, lives, tracked, what in (
            (("f", "ff", "fm"), ("ff", "fm", "mf", "mm"), ("f", "m"), None),
            (("f", "ff", "fm", "f.0"), ("ff", "fm", "ffm"), ("f", "m", "ff"), "names"),
            (("m", "mf", "mm", "mff"), (), (), "names"),
            (("f",), ("ff", "fm", "ffm"), ("f", "m", "ff"), "lives"),
            (("f",), ("mf", "mm", "mmm"), (), "lives"),
            (("f",), ("mf", "mm", "mmf", "mfm"), (), "lives"),
            (("f",), ("ff",), ("f", "m", "ff"), "tracked"),
        ):
            reads = reads_of(custom, names=names, lives=lives, tracked=tracked)
            if names == ("m", "mf", "mm", "mff"):
                self.assertEqual(reads.places("d"), ("", "f", "m", "ff"))
            self.assertEqual(reads.too_wide(), what, (names, lives, tracked))
            if what is None:
                self.assertIsNone(reads.check_width())
            else:
                self.refused(TooWide, (what,), reads.check_width)

    def test_equality(self):
        custom = Custom(FREE, FREE)
        base = {"names": ["f"], "lives": ["ff"], "tracked": ["m"]}
        self.assertEqual(reads_of(custom, **base), reads_of(custom, names=("f", "m"), lives=("ff", "f"), tracked=("m",)))
        for more in ({"names": ["ff"]}, {"lives": ["fm"]}, {"tracked": ["f"]}):
            self.unlike_all(reads_of(custom, **base), reads_of(custom, **{**base, **more}))
        self.unlike_all(reads_of(custom, names=["f"]), reads_of(custom, tracked=["f"]))
        numbered = Custom([Take("m", Number(1)), Free()], FREE)
        self.unlike_all(reads_of(custom, names=["m"]), reads_of(numbered), told(reads_of(custom)), None)

    def test_nothing_is_kept(self):
        names = ["f"]
        reads = reads_of(Custom(FREE, FREE), names=names)
        names.append("ff")
        self.assertEqual(reads.places("s"), ("",))

    def test_by_chance_against_the_closure_said_plainly(self):
        rng = random.Random(7)
        for _ in range(300):
            width = rng.randint(0, 2)
            customs = [chance_custom(rng, width if rng.random() < 0.8 else None, longest=3) for _ in range(rng.randint(1, 2))]
            names = rng.sample(SOURCES, rng.randint(0, 2))
            lives = rng.sample(SOURCES[:14], rng.randint(0, 2))
            tracked = rng.sample(SOURCES, rng.randint(0, 1))
            houses = rng.random() < 0.2
            reads = reads_of(*customs, names=names, lives=lives, tracked=tracked, houses=houses)
            self.assertEqual(told(reads), plain_reads(customs, names, lives, tracked, houses))


def plain_reads(customs, names, lives, tracked, houses):
    """The reads, from the texts of the clauses and by going round till nothing is new."""
    parent = {"f": "s", "m": "d"}
    words = {kind: [str(clause).replace(",", "").split(" ") for c in customs for clause in c.clauses(kind)] for kind in "sd"}
    both = words["s"] + words["d"]
    alive = {row[i + 1] for row in both for i, word in enumerate(row) if word in ("alive", "dead")}
    mentioned = {w for row in both for i, w in enumerate(row) if w in SOURCES and row[i - 1] not in ("alive", "dead")}
    followed = set(tracked)
    for custom in customs:
        takes = [str(clause) for clause in custom.sons[:-1] + custom.daughters[:-1]]
        frees = str(custom.sons[-1]) + str(custom.daughters[-1])
        bars = "living" in frees or "ever" in frees
        followed |= {take.split(" ")[1] for take in takes if bars or "unborne" in take or "never" in take}
    read = {(parent[source[0]], source[1:]) for source in mentioned | set(names) | followed}
    if houses:
        read |= {(kind, f".{i}") for kind in "sd" for i in range(max(custom.width for custom in customs))}
    asked = {(parent[way[0]], way[1:]) for way in alive | set(lives)}
    for _ in range(20):
        for kind, place in list(read):
            if place[:1] == ".":
                for custom in customs:
                    if custom.width > int(place[1]):
                        first, second = custom.house[int(place[1])]
                        read.add((parent[second], "") if first == "given" else (parent[first], f".{second}"))
                        rule = custom.wedding_rules(kind)[int(place[1])]
                        if rule != "own":
                            read.add(("d" if kind == "s" else "s", f".{rule}"))
            elif place:
                read.add((parent[place[0]], place[1:]))
        for kind, way in list(asked):
            if way:
                asked.add((parent[way[0]], way[1:]))
    found = []
    for kind in "sd":
        places = tuple(place for place in PLACES if (kind, place) in read)
        found.append((places, tuple(way for way in PLACES[1:7] if (kind, way) in asked)))
    numbered = tuple(kind for kind in "sd" if any("number" in row for row in words[kind]))
    return tuple(found + [tuple(source for source in SOURCES if source in followed), numbered])
