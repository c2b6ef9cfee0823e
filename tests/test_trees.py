import unittest

from runrows.errors import NoName, NoPart
from runrows.parts import Choice, Given, Named, Pair, Part, Turned
from runrows.timed import Before, Held, Led, When
from runrows.trees import part_at, part_of
from tests.helper import SIGNS, all_kinds, deep, deep_told, exact, large, place_in, refused

A, B, C = ("named", "a"), ("named", "b"), ("named", "c.in")
FIRSTS = (None, True, False, 0, 1, -1, 127, -128)
NO_VALUES = (128, -129, 10 ** 30, 1.0, "", "1", "yes", [], [1], (), (1,), {}, object())
NO_NAMES = ("", "in", "held", "abcdefghi", "Go", "a1", "a.", ".a", "a..b", "a.b.c.d.e", "a b", "a\n")
NO_SIGNS = ("", " ", "+ ", "++", "/", "==", ">", ">=", "AND", "xor", "not", "if", "held", "given", "named")


class PartOf(unittest.TestCase):
    def check(self, kind, told):
        part = part_of(told)
        self.assertIs(type(part), kind)
        self.assertIsInstance(part, Part)
        self.assertEqual(exact(part.told()), exact(told))
        return part

    def test_values_and_names(self):
        for value in FIRSTS[1:]:
            self.assertEqual(exact(self.check(Given, ("given", value)).value), exact(value))
        for name in ("a", "go", "a.in.b", "in.in.in.in", "abcdefgh"):
            self.assertEqual(self.check(Named, ("named", name)).name, name)

    def test_kinds_that_look_at_one_step(self):
        self.assertEqual(self.check(Turned, ("not", A)).part.name, "a")
        for sign in SIGNS:
            part = self.check(Pair, (sign, A, B))
            self.assertEqual((part.sign, part.one.name, part.other.name), (sign, "a", "b"))
        part = self.check(Choice, ("if", C, A, B))
        self.assertEqual((part.truth.name, part.one.name, part.other.name), ("c.in", "a", "b"))

    def test_kinds_that_look_at_others(self):
        part = self.check(Led, ("then", A, B))
        self.assertEqual((part.head.name, part.rest.name), ("a", "b"))
        part = self.check(When, ("when", A, "c.in"))
        self.assertEqual((part.part.name, part.name), ("a", "c.in"))
        for first in FIRSTS:
            part = self.check(Before, ("before", A, first))
            self.assertEqual((part.part.name, exact(part.first)), ("a", exact(first)))
            part = self.check(Held, ("held", A, "c", first))
            self.assertEqual((part.part.name, part.name, exact(part.first)), ("a", "c", exact(first)))

    def test_one_in_another(self):
        for part in all_kinds(Before(Held(When(Led(Named("a"), Given(-3)), "c"), "c", 0))):
            for whole in all_kinds(part):
                self.assertEqual(exact(part_of(whole.told()).told()), exact(whole.told()))
                self.assertEqual(part_of(whole.told()).text(), whole.text())

    def test_ten_and_eleven_deep(self):
        self.assertEqual(part_of(deep_told(10)).told(), deep(10).told())
        for depth in (11, 12, 20, 50):
            refused(self, NoPart, part_of, deep_told(depth))
        nine = deep_told(9)
        for told in (("before", nine, None), ("held", nine, "c", True), ("when", nine, "c"), ("then", A, nine),
                     ("if", A, B, nine), ("=", nine, A)):
            self.assertEqual(part_of(told).depth(), 10)
            refused(self, NoPart, part_of, ("not", told))

    def test_forty_and_more_large(self):
        self.assertEqual(part_of(large(40).told()).size(), 40)
        self.assertEqual(part_of(("not", ("not", large(38).told()))).size(), 40)
        refused(self, NoPart, part_of, ("not", large(40).told()))
        refused(self, NoPart, part_of, ("and", large(20).told(), large(20).told()))
        refused(self, NoPart, part_of, ("if", large(38).told(), A, B))

    def test_each_refusal(self):
        for value in NO_VALUES + (None,):
            refused(self, NoPart, part_of, ("given", value))
        for value in NO_VALUES:
            refused(self, NoPart, part_of, ("before", A, value))
            refused(self, NoPart, part_of, ("held", A, "c", value))
        for name in NO_NAMES:
            refused(self, NoName, part_of, ("named", name))
            refused(self, NoName, part_of, ("when", A, name))
            refused(self, NoName, part_of, ("held", A, name, None))
        for sign in NO_SIGNS:
            refused(self, NoPart, part_of, (sign, A, B))

    def test_refusals_within(self):
        for part in all_kinds(Named("here")):
            place = [one.told() for one in part.inner()].index(("named", "here"))
            told = part.told()
            for inner, error in ((("named", "in"), NoName), (("given", 128), NoPart), (deep_told(11), NoPart)):
                changed = told[:place + 1] + (inner,) + told[place + 2:]
                refused(self, error, part_of, changed)

    def test_the_left_one_comes_first(self):
        name, value, deeper = ("named", "in"), ("given", 128), deep_told(11)
        for left, right, error in ((name, value, NoName), (value, name, NoPart), (deeper, name, NoPart),
                                   (name, deeper, NoName)):
            for told in (("+", left, right), ("then", left, right), ("if", left, right, A), ("if", left, A, right),
                         ("if", A, left, right), ("if", left, right, right), ("or", ("not", left), right),
                         ("or", left, ("not", right))):
                refused(self, error, part_of, told)

    def test_the_inner_one_comes_first(self):
        name, value = ("named", "in"), ("given", 128)
        for told in (("xor", name, A), ("xor", A, name), ("before", name, 128), ("held", name, "c", "none"),
                     ("not", ("xor", A, ("before", name, 128)))):
            refused(self, NoName, part_of, told)
        for told in (("when", value, "in"), ("held", value, "in", None), ("held", ("xor", A, B), "in", 1),
                     ("when", ("before", A, 128), ""), ("when", deep_told(11), "in")):
            refused(self, NoPart, part_of, told)

    def test_the_name_comes_ahead_of_the_first_and_the_bounds(self):
        refused(self, NoName, part_of, ("held", A, "in", 128))
        refused(self, NoName, part_of, ("held", deep_told(10), "in", 128))
        refused(self, NoName, part_of, ("when", deep_told(10), "in"))


class PartAt(unittest.TestCase):
    def test_the_whole(self):
        for part in all_kinds(Named("a")) + [Given(1), Named("a")]:
            self.assertIs(part_at(part, ()), part)

    def test_within_each_kind(self):
        a, b, c = Named("a"), Named("b"), Named("c")
        for part, inner in (
            (Turned(a), (a,)), (Pair("+", a, b), (a, b)), (Choice(c, a, b), (c, a, b)), (Before(a, 3), (a,)),
            (Led(a, b), (a, b)), (When(a, "c"), (a,)), (Held(a, "c", 3), (a,)),
        ):
            for at, one in enumerate(inner):
                self.assertIs(part_at(part, (at,)), one, part.text())

    def test_further_in(self):
        inmost = Given(3)
        for inner in all_kinds(inmost):
            for whole in all_kinds(inner):
                place = (place_in(whole, inner), place_in(inner, inmost))
                self.assertIs(part_at(whole, place), inmost, whole.text())
        self.assertEqual(part_at(deep(10), (0,) * 9).told(), ("given", True))

    def test_the_part_stays(self):
        part = Pair("+", Before(Named("a")), Given(1))
        told = part.told()
        part_at(part, (0, 0))
        self.assertEqual(part.told(), told)
