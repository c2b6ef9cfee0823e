import unittest

from runrows import parts, timed
from runrows.errors import NoName, NoPart
from runrows.parts import Choice, Given, Named, Pair, Part, Turned
from runrows.timed import Before, Held, Led, When
from tests.helper import SIGNS, deep, exact, large

NINE = (Given, Named, Turned, Pair, Choice, Before, Led, When, Held)
NO_VALUES = (128, -129, 10 ** 30, 10 ** 5000, 1.0, "", "1", "yes", [], [1], (), (1,), {}, b"", object())
NO_NAMES = ("", "in", "held", "abcdefghi", "Go", "a1", "a.", ".a", "a..b", "a.b.c.d.e", "a b", "a\n")
NO_SIGNS = ("", " ", "+ ", " +", "++", "/", "%", "==", "!=", ">", ">=", "=<", "not", "AND", "xor", "if", "then")


class Fields(unittest.TestCase):
    def test_each_stands_straight_under_part(self):
        for kind in NINE:
            self.assertEqual(kind.__bases__, (Part,), kind)

    def test_each_is_in_its_file(self):
        for name in ("Part", "Given", "Named", "Turned", "Pair", "Choice"):
            self.assertEqual(getattr(parts, name).__module__, "runrows.parts")
        for name in ("Before", "Led", "When", "Held"):
            self.assertEqual(getattr(timed, name).__module__, "runrows.timed")

    def test_fields_by_place(self):
        for value in (True, False, 0, 1, -1, 127, -128):
            self.assertEqual(exact(Given(value).value), exact(value))
        for name in ("go", "a.go", "a.in.b"):
            self.assertEqual(Named(name).name, name)
        a, b, c = Named("a"), Named("b"), Named("c")
        self.assertIs(Turned(a).part, a)
        for sign in SIGNS:
            pair = Pair(sign, a, b)
            self.assertEqual(pair.sign, sign)
            self.assertIs(pair.one, a)
            self.assertIs(pair.other, b)
        choice = Choice(c, a, b)
        self.assertIs(choice.truth, c)
        self.assertIs(choice.one, a)
        self.assertIs(choice.other, b)
        led = Led(a, b)
        self.assertIs(led.head, a)
        self.assertIs(led.rest, b)
        when = When(a, "go.in")
        self.assertIs(when.part, a)
        self.assertEqual(when.name, "go.in")

    def test_fields_with_a_first(self):
        a = Named("a")
        self.assertIs(Before(a).part, a)
        self.assertIs(Before(a).first, None)
        self.assertIs(Held(a, "go").part, a)
        self.assertEqual(Held(a, "go").name, "go")
        self.assertIs(Held(a, "go").first, None)
        for first in (None, True, False, 0, 1, -128, 127):
            self.assertEqual(exact(Before(a, first).first), exact(first))
            self.assertEqual(exact(Held(a, "go", first).first), exact(first))

    def test_fields_by_their_names(self):
        a, b, c = Named("a"), Named("b"), Named("c")
        made = [
            Given(value=3), Named(name="go"), Turned(part=a), Pair(sign="<", one=a, other=b),
            Choice(truth=c, one=a, other=b), Before(part=a, first=3), Led(head=a, rest=b), When(part=a, name="go"),
            Held(part=a, name="go", first=False),
        ]
        self.assertEqual([part.text() for part in made], [
            "3", "go", "(not a)", "(a < b)", "(if c a b)", "(before a 3)", "(a then b)", "(a when go)",
            "(a held go no)",
        ])


class Forms(unittest.TestCase):
    def setUp(self):
        a, b, c = self.abc = Named("a"), Named("b"), Named("c")
        self.plain = [
            (Given(3), (), ("given", 3), "3"),
            (Given(True), (), ("given", True), "yes"),
            (Given(False), (), ("given", False), "no"),
            (Given(0), (), ("given", 0), "0"),
            (Given(1), (), ("given", 1), "1"),
            (Given(-1), (), ("given", -1), "-1"),
            (Given(127), (), ("given", 127), "127"),
            (Given(-128), (), ("given", -128), "-128"),
            (a, (), ("named", "a"), "a"),
            (Named("a.in.b"), (), ("named", "a.in.b"), "a.in.b"),
            (Turned(a), (a,), ("not", ("named", "a")), "(not a)"),
            (Choice(c, a, b), (c, a, b), ("if", ("named", "c"), ("named", "a"), ("named", "b")), "(if c a b)"),
            (Before(a), (a,), ("before", ("named", "a"), None), "(before a)"),
            (Before(a, 0), (a,), ("before", ("named", "a"), 0), "(before a 0)"),
            (Before(a, -5), (a,), ("before", ("named", "a"), -5), "(before a -5)"),
            (Before(a, False), (a,), ("before", ("named", "a"), False), "(before a no)"),
            (Before(a, True), (a,), ("before", ("named", "a"), True), "(before a yes)"),
            (Led(a, b), (a, b), ("then", ("named", "a"), ("named", "b")), "(a then b)"),
            (When(a, "c"), (a,), ("when", ("named", "a"), "c"), "(a when c)"),
            (Held(a, "c"), (a,), ("held", ("named", "a"), "c", None), "(a held c)"),
            (Held(a, "c", 0), (a,), ("held", ("named", "a"), "c", 0), "(a held c 0)"),
            (Held(a, "c", -7), (a,), ("held", ("named", "a"), "c", -7), "(a held c -7)"),
            (Held(a, "c", False), (a,), ("held", ("named", "a"), "c", False), "(a held c no)"),
            (Held(a, "c", True), (a,), ("held", ("named", "a"), "c", True), "(a held c yes)"),
        ]
        for sign in SIGNS:
            told = (sign, ("named", "a"), ("named", "b"))
            self.plain.append((Pair(sign, a, b), (a, b), told, f"(a {sign} b)"))

    def test_inner_told_and_text(self):
        for part, inner, told, text in self.plain:
            self.assertIs(type(part.inner()), tuple, text)
            self.assertEqual(len(part.inner()), len(inner), text)
            for got, want in zip(part.inner(), inner):
                self.assertIs(got, want, text)
            self.assertEqual(exact(part.told()), exact(told))
            self.assertEqual(part.text(), text)

    def test_size_and_depth_of_one_kind(self):
        for part, inner, _, text in self.plain:
            self.assertEqual(part.size(), 1 + len(inner), text)
            self.assertEqual(part.depth(), 2 if inner else 1, text)

    def test_one_in_another(self):
        part = Led(
            Choice(Pair("<=", Named("a"), Given(-3)), Before(Turned(Named("b.c")), True), Given(False)),
            Held(When(Pair("and", Named("x"), Given(True)), "go"), "go"),
        )
        self.assertEqual(
            part.text(),
            "((if (a <= -3) (before (not b.c) yes) no) then (((x and yes) when go) held go))",
        )
        self.assertEqual(exact(part.told()), exact((
            "then",
            (
                "if",
                ("<=", ("named", "a"), ("given", -3)),
                ("before", ("not", ("named", "b.c")), True),
                ("given", False),
            ),
            ("held", ("when", ("and", ("named", "x"), ("given", True)), "go"), "go", None),
        )))
        self.assertEqual(part.size(), 14)
        self.assertEqual(part.depth(), 5)

    def test_depth_is_by_the_deepest(self):
        two, three = Turned(Given(True)), Turned(Turned(Given(True)))
        one = Given(True)
        for part in (
            Choice(three, two, one), Choice(one, three, two), Choice(two, one, three), Led(one, three), Led(three, two),
            Pair("and", three, one), Pair("and", two, three), Before(three), When(three, "c"), Held(three, "c"),
            Turned(three),
        ):
            self.assertEqual(part.depth(), 4, part.text())

    def test_size_counts_a_part_as_often_as_it_stands(self):
        part = Pair("and", Named("a"), Named("b"))
        self.assertEqual(Pair("or", part, part).size(), 7)
        self.assertEqual(Choice(part, part, part).size(), 10)


class NamesAndNeeds(unittest.TestCase):
    def check(self, part, names, needs):
        self.assertEqual(exact(part.names()), exact(names), part.text())
        self.assertEqual(exact(part.needs()), exact(needs), part.text())

    def test_each_kind(self):
        a, b, c = Named("a"), Named("b"), Named("c")
        self.check(Given(3), [], [])
        self.check(a, ["a"], ["a"])
        self.check(Turned(a), ["a"], ["a"])
        for sign in SIGNS:
            self.check(Pair(sign, b, a), ["b", "a"], ["b", "a"])
        self.check(Choice(c, b, a), ["c", "b", "a"], ["c", "b", "a"])
        self.check(Before(a), ["a"], [])
        self.check(Led(b, a), ["b", "a"], ["b", "a"])
        self.check(When(b, "a"), ["b", "a"], ["b", "a"])
        self.check(Held(b, "a"), ["b", "a"], ["b", "a"])
        self.check(When(Given(1), "a"), ["a"], ["a"])
        self.check(Held(Given(1), "a", 2), ["a"], ["a"])

    def test_each_once_where_it_stands_first(self):
        a, b = Named("a"), Named("b")
        self.check(Pair("+", a, a), ["a"], ["a"])
        self.check(Choice(b, a, b), ["b", "a"], ["b", "a"])
        self.check(When(Pair("+", a, b), "a"), ["a", "b"], ["a", "b"])
        self.check(Held(Led(b, a), "a"), ["b", "a"], ["b", "a"])
        self.check(Pair("+", Held(b, "c"), Pair("+", a, b)), ["b", "c", "a"], ["b", "c", "a"])
        self.check(Pair("+", When(b, "c"), Named("c")), ["b", "c"], ["b", "c"])

    def test_nothing_of_what_stands_in_a_before(self):
        a, b = Named("a"), Named("b")
        self.check(Pair("+", Before(a), b), ["a", "b"], ["b"])
        self.check(Pair("+", Before(a), Pair("+", b, a)), ["a", "b"], ["b", "a"])
        self.check(Before(When(a, "c")), ["a", "c"], [])
        self.check(When(Before(a), "c"), ["a", "c"], ["c"])
        self.check(Held(Before(Held(a, "x")), "c"), ["a", "x", "c"], ["c"])
        self.check(Before(Pair("+", Before(a), b), 3), ["a", "b"], [])
        self.check(Led(a, Before(b)), ["a", "b"], ["a"])
        self.check(Turned(Before(a)), ["a"], [])
        self.check(Choice(Before(a), b, Before(b)), ["a", "b"], ["b"])

    def test_lists_are_the_askers_own(self):
        for part in (Given(1), Named("a"), Before(Named("a")), Pair("+", Named("a"), Named("b")), When(Named("a"), "c")):
            for ask in (part.names, part.needs):
                want = list(ask())
                ask().append("more")
                ask().clear()
                self.assertEqual(ask(), want)
                self.assertIsNot(ask(), ask())


class Refused(unittest.TestCase):
    def refuse(self, error, make, *handed):
        with self.assertRaises(error) as caught:
            make(*handed)
        self.assertIs(type(caught.exception), error)

    def test_values_of_given(self):
        for thing in NO_VALUES + (None,):
            self.refuse(NoPart, Given, thing)

    def test_names(self):
        for name in NO_NAMES:
            self.refuse(NoName, Named, name)
            self.refuse(NoName, When, Given(1), name)
            self.refuse(NoName, Held, Given(1), name)
            self.refuse(NoName, Held, Given(1), name, 3)

    def test_signs(self):
        for sign in NO_SIGNS:
            self.refuse(NoPart, Pair, sign, Given(1), Given(2))

    def test_firsts(self):
        for first in NO_VALUES:
            self.refuse(NoPart, Before, Given(1), first)
            self.refuse(NoPart, Held, Given(1), "c", first)

    def test_kinds_of_firsts_are_not_looked_at(self):
        self.assertEqual(Before(Given(1), True).text(), "(before 1 yes)")
        self.assertEqual(Held(Given(True), "c", 1).text(), "(yes held c 1)")
        self.assertEqual(Pair("+", Given(True), Given(1)).text(), "(yes + 1)")

    def test_the_name_is_looked_at_first(self):
        for name in NO_NAMES:
            for first in NO_VALUES:
                self.refuse(NoName, Held, Given(1), name, first)
            for part in (deep(10), large(40)):
                self.refuse(NoName, When, part, name)
                self.refuse(NoName, Held, part, name)
                self.refuse(NoName, Held, part, name, "none")

    def wrapped(self, part, value):
        return [
            lambda: Turned(part), lambda: Pair("and", part, value), lambda: Pair("or", value, part),
            lambda: Choice(part, value, value), lambda: Choice(value, part, value),
            lambda: Choice(value, value, part), lambda: Before(part), lambda: Before(part, True),
            lambda: Led(part, value), lambda: Led(value, part), lambda: When(part, "c"), lambda: Held(part, "c"),
            lambda: Held(part, "c", True),
        ]

    def test_ten_deep_and_eleven(self):
        nine, ten = deep(9), deep(10)
        self.assertEqual((nine.depth(), ten.depth()), (9, 10))
        for make in self.wrapped(nine, Given(True)):
            self.assertEqual(make().depth(), 10)
        for make in self.wrapped(ten, Given(True)):
            self.refuse(NoPart, make)

    def test_forty_large_and_more(self):
        for size in (36, 38, 40):
            self.assertEqual(large(size).size(), size)
            self.assertLess(large(size).depth(), 9)
        for make, more in zip(self.wrapped(large(38), Given(True)), (1, 2, 2, 3, 3, 3, 1, 1, 2, 2, 1, 1, 1)):
            if 38 + more <= 40:
                self.assertEqual(make().size(), 38 + more)
            else:
                self.refuse(NoPart, make)
        for make in self.wrapped(large(40), Given(True)):
            self.refuse(NoPart, make)
        for make in self.wrapped(Turned(large(38)), Given(True))[1:3]:
            self.refuse(NoPart, make)
        self.assertEqual(Choice(Turned(large(36)), Given(True), Given(True)).size(), 40)
        self.refuse(NoPart, Choice, large(38), Given(True), Given(True))
        self.refuse(NoPart, Pair, "and", large(20), large(20))
        self.assertEqual(Pair("and", large(20), Turned(large(18))).size(), 40)
        self.refuse(NoPart, Led, large(20), large(20))
        self.assertEqual(Led(large(20), Turned(large(18))).size(), 40)
