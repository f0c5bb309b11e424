"""L18: names that are a method and an attribute, called in what an operator or a property runs."""

import ast
import unittest

from tests import language
from tests.runs import Code, all_run, double_name_faults

BOX = "class Box:\n    def __init__(self):\n        self.many = 1\n"
BAG = "class Bag:\n    def many(self):\n        return 1\n"


def faults(**files):
    return list(double_name_faults({name: ast.parse(text) for name, text in files.items()}))


def method(head, body, name="Shelf"):
    return f"class {name}:\n    {head}\n        {body}\n"


class DoubleNamesTest(unittest.TestCase):
    def test_the_package(self):
        trees = language.trees()
        self.assertEqual(list(double_name_faults(trees)), [])
        code = Code(trees)
        # Promised by the interface, and so let to stand: they are not called there.
        self.assertEqual(code.both() - {"barred", "children", "bearers", "root"}, set())
        run = {function.name for function in all_run(code)}
        for name in ("_has_places", "places", "state_key", "least_rooms", "class_count", "first_word", "_first_parting", "numbered", "is_whole"):
            self.assertIn(name, run)

    def test_as_it_stood(self):
        trees = language.trees()
        trees["freshcouples"] = ast.parse(language.PACKAGE.joinpath("freshcouples.py").read_text().replace("kind_places", "places"))
        found = list(double_name_faults(trees))
        self.assertTrue(any("L18 places in _has_places" in fault for fault in found))
        self.assertTrue(all("L18 places" in fault for fault in found))

    def test_operators(self):
        for head in ("__or__(self, other)", "__and__(self, other)", "__contains__(self, thing)", "__eq__(self, other)", "__len__(self)",
                     "__lt__(self, other)", "__add__(self, other)", "__radd__(self, other)", "__iadd__(self, other)", "__neg__(self)",
                     "__bool__(self)", "__getitem__(self, at)", "__setitem__(self, at, worth)", "__iter__(self)", "__str__(self)", "__repr__(self)"):
            shelf = method(f"def {head}:", "return self.bag.many()")
            self.assertEqual(len(faults(a=BOX + BAG + shelf)), 1, head)
            self.assertEqual(len(faults(a=BOX, b=BAG, c=shelf)), 1, head)
            self.assertEqual(faults(a=BAG + shelf), [])
            self.assertEqual(faults(a=BOX + shelf), [])
            self.assertEqual(faults(a=BOX + BAG + shelf.replace("many()", "many")), [])
            self.assertEqual(faults(a=BOX + BAG + shelf.replace("many()", "more()")), [])

    def test_properties(self):
        shelf = method("@property\n    def width(self):", "return self.bag.many()")
        self.assertEqual(len(faults(a=BOX + BAG + shelf)), 1)
        setter = method("@property\n    def width(self):", "return 1\n    @width.setter\n    def width(self, worth):\n        self.bag.many()")
        self.assertEqual(faults(a=BOX + BAG + setter), [])

    def test_other_methods_may_call_it(self):
        for head in ("def told(self):", "def __init__(self):", "def __call__(self):", "def __enter__(self):"):
            self.assertEqual(faults(a=BOX + BAG + method(head, "self.bag.many()")), [])
        self.assertEqual(faults(a=BOX + BAG + "def told(bag):\n    return bag.many()\n"), [])

    def test_through_functions_methods_and_constructors(self):
        shelf = method("def __or__(self, other):", "return one(self)")
        two = "def two(bag):\n    return bag.many()\n"
        self.assertEqual(len(faults(a=BOX + BAG + shelf + "def one(bag):\n    return two(bag)\n" + two)), 1)
        self.assertEqual(len(faults(a=BOX + BAG + shelf + "def one(bag):\n    return bag.two()\n" + method("def two(self):", "return self.many()", "Rack"))), 1)
        made = "def one(bag):\n    return Rack(bag)\n" + method("def __init__(self, bag):", "self.worth = bag.many()", "Rack")
        self.assertEqual(len(faults(a=BOX + BAG + shelf + made)), 1)
        below = made.replace("return Rack", "return Low") + "class Low(Rack):\n    pass\n"
        self.assertEqual(len(faults(a=BOX + BAG + shelf + below)), 1)
        self.assertEqual(len(faults(a=BOX + BAG, b="from p.c import one\n" + shelf, c="def one(bag):\n    return bag.many()\n")), 1)
        self.assertEqual(faults(a=BOX + BAG, b=shelf, c="def one(bag):\n    return bag.many()\n"), [])
        self.assertEqual(len(faults(a=BOX + BAG, b="from p.c import Low\n" + shelf + "def one(bag):\n    return Low(bag)\n",
                                    c="from p.d import Rack\nclass Low(Rack):\n    pass\n",
                                    d=method("def __init__(self, bag):", "self.worth = bag.many()", "Rack"))), 1)

    def test_through_signs_and_texts(self):
        for told, sign in (("__eq__(self, other)", "self.n == 1"), ("__eq__(self, other)", "self.n in other"), ("__len__(self)", "len(other)"),
                           ("__str__(self)", "f'{other}'"), ("__str__(self)", "str(other)"), ("__iter__(self)", "[x for x in other]"),
                           ("__or__(self, other)", "self.n | other"), ("__iter__(self)", "list(other)")):
            rack = method(f"def {told}:", "return self.bag.many()", "Rack")
            shelf = method("@property\n    def width(self):", f"return {sign}")
            self.assertGreater(len(faults(a=BOX + BAG + rack + shelf)), 0, sign)
        hidden = method("@property\n    def low(self):", "return self.bag.many()", "Rack") + method("def __or__(self, other):", "return other.low")
        self.assertEqual(len(faults(a=BOX + BAG + hidden)), 1)

    def test_a_name_of_one_class_alone(self):
        both = "class Box:\n    def __init__(self):\n        self.rows = 1\n    def many(self):\n        return 1\n"
        self.assertEqual(faults(a=both + method("def __or__(self, other):", "return other.many()")), [])
        worth = "def told(box):\n    box.many = 1\n"
        self.assertEqual(len(faults(a=both + worth + method("def __or__(self, other):", "return other.many()"))), 1)
