import unittest

from runrows.cutting import part_by
from runrows.errors import NoName, NoPart, NoText
from runrows.parts import Given, Named, Pair, Part
from runrows.timed import Before, Held, Led, When
from tests.forms import is_part_text
from tests.helper import SIGNS, all_kinds, deep, exact, large, refused

KEPT = ("module", "in", "out", "row", "use", "end", "number", "truth", "on", "not", "and", "or", "if", "before", "then",
        "when", "held")
# What is no part by its signs.
NO_WORDS = ("", " ", "A", "aB", "a1", "1a", "a_b", "a-b", "a.", ".a", ".", "a..b", "a.1", "00", "01", "-0", "-00", "-01",
            "1000", "-1000", "0000", "+1", "--1", "-", "1-", "1.", "1.0", "1..2", "1,", "Yes", "no.", "&", "@",
            "\t", "a\t", "\ta", "a\n", "\na", "\n", "\"a\"") + KEPT
TRUE_WORDS = ("a", "go", "abcdefgh", "a.b", "in.out", "yes.no", "a.in.b.c", "0", "1", "9", "10", "99", "100", "127",
              "-1", "-9", "-10", "-128", "yes", "no")


class PartBy(unittest.TestCase):
    def check(self, part):
        again = part_by(part.text())
        self.assertIsInstance(again, Part)
        self.assertIs(type(again), type(part))
        self.assertEqual(exact(again.told()), exact(part.told()))
        self.assertEqual(again.text(), part.text())

    def no_form(self, text):
        self.assertFalse(is_part_text(text), text)
        self.assertEqual(exact(refused(self, NoText, part_by, text).row), exact(0), text)

    def test_words(self):
        self.assertEqual([part_by(word).text() for word in TRUE_WORDS], list(TRUE_WORDS))
        self.assertEqual(exact(part_by("yes").told()), exact(("given", True)))
        self.assertEqual(exact(part_by("no").told()), exact(("given", False)))
        self.assertEqual(exact(part_by("1").told()), exact(("given", 1)))
        self.assertEqual(exact(part_by("0").told()), exact(("given", 0)))
        self.assertEqual(exact(part_by("-128").told()), exact(("given", -128)))
        self.assertEqual(part_by("a.in").told(), ("named", "a.in"))

    def test_what_each_kind_writes(self):
        a, b = Named("a"), Named("b.in")
        for part in all_kinds(a) + [Pair(sign, a, b) for sign in SIGNS] + [Led(a, b), When(b, "in.a")]:
            self.check(part)
        for first in (None, True, False, 0, 1, -1, 127, -128):
            self.check(Before(b, first))
            self.check(Held(b, "c.d", first))
            self.check(Before(Before(Given(3), first), first))

    def test_one_in_another(self):
        for part in all_kinds(Held(Before(Given(-3), False), "c", -1)):
            for whole in all_kinds(part):
                self.check(whole)
                for sign in SIGNS:
                    self.check(Pair(sign, whole, part))

    def test_the_told_tuple_sign_by_sign(self):
        text = "((if (a <= -3) (before (not b.c) yes) no) then (((x - -1) when go) held go))"
        self.assertEqual(exact(part_by(text).told()), exact((
            "then",
            ("if", ("<=", ("named", "a"), ("given", -3)), ("before", ("not", ("named", "b.c")), True), ("given", False)),
            ("held", ("when", ("-", ("named", "x"), ("given", -1)), "go"), "go", None),
        )))

    def test_as_deep_and_large_as_may_be(self):
        self.check(deep(10))
        self.check(large(40))

    def test_words_that_are_none(self):
        for word in NO_WORDS:
            self.no_form(word)

    def test_words_within_that_are_none(self):
        for word in NO_WORDS:
            for text in (f"(not {word})", f"({word} + a)", f"(a + {word})", f"(if {word} a b)", f"(if a {word} b)",
                         f"(if a b {word})", f"(before {word})", f"(before {word} 3)", f"({word} then a)",
                         f"(a then {word})", f"({word} when c)", f"({word} held c)", f"({word} held c yes)"):
                self.no_form(text)

    def test_names_within_that_are_none(self):
        for word in NO_WORDS + ("yes", "no", "0", "1", "-1", "(a)", "(not a)"):
            for text in (f"(a when {word})", f"(a held {word})", f"(a held {word} 3)"):
                self.no_form(text)

    def test_firsts_that_are_none(self):
        for word in NO_WORDS + ("a", "a.b", "(1)", "(not a)", "None"):
            for text in (f"(before a {word})", f"(a held c {word})"):
                self.no_form(text)

    def test_signs_that_are_none(self):
        for sign in ("", " ", "++", "==", ">", ">=", "=<", "/", "&", "xor", "AND", "a", "yes", "0", "(+)", "(not a)", "not",
                     "if", "before", "in", "+ +", "\t"):
            self.no_form(f"(a {sign} b)")

    def test_blanks(self):
        for text in ("(not a)", "(a + b)", "(if a b c)", "(before a)", "(before a 3)", "(a then b)", "(a when b)",
                     "(a held b)", "(a held b 3)", "((not a) and (not b))", "(not (not a))"):
            self.assertEqual(part_by(text).text(), text)
            self.no_form(" " + text)
            self.no_form(text + " ")
            self.no_form(text + "\n")
            self.no_form(text.replace("(", "( ", 1))
            self.no_form(text[:-1] + " )")
            for at, sign in enumerate(text):
                if sign == " ":
                    for other in ("", "  ", "\t", "\n", " \t"):
                        self.no_form(text[:at] + other + text[at + 1:])

    def test_brackets_that_do_not_close(self):
        for text in ("(", ")", "()", ")(", "(a", "a)", "(not a", "not a)", "(not a))", "((not a)", "(not a)(not b)",
                     "(not a) (not b)", "a b", "(not (a)", "(a)", "((not a))", "((a + b) + (c)", "(a + b) c", "(a +) b)",
                     "(not ()", "(a (+) b)", "(not a)b", "a(not b)", "(if a b c))", "(a + (b)", "[not a]", ")a("):
            self.no_form(text)

    def test_too_few_and_too_many_words(self):
        for text in ("(not)", "(not a b)", "(a +)", "(+ a)", "(+ a b)", "(a + b c)", "(a + b + c)", "(a b)", "(a b c)",
                     "(if)", "(if a)", "(if a b)", "(if a b c d)", "(before)", "(before a 1 2)", "(a then)", "(then a)",
                     "(a then b c)", "(a then b 3)", "(a when)", "(a when b 3)", "(a when b c)", "(when a b)", "(a held)",
                     "(held a b)", "(a held b 1 2)", "(a + b 3)", "not a", "a + b", "before a", "if a b c", "(3 4)",
                     "(yes)", "(-)", "(a not)", "(a if b)", "(a before)", "(a not b)"):
            self.no_form(text)

    def test_twenty_and_twenty_one_brackets(self):
        for depth in (10, 15, 19, 20):
            for text in ("(not " * depth + "a" + ")" * depth, "(" * depth + "a" + " + b)" * depth):
                self.assertTrue(is_part_text(text))
                refused(self, NoPart, part_by, text)
        for depth in (21, 22, 100, 5000):
            for text in ("(not " * depth + "a" + ")" * depth, "(" * depth + "a" + " + b)" * depth,
                         "(a + (not b)) " + "(" * depth, "(" * depth):
                self.no_form(text)
        nineteen = "(not " * 19 + "a" + ")" * 19
        refused(self, NoPart, part_by, f"({nineteen} + {nineteen})")
        refused(self, NoText, part_by, f"(b + (not {nineteen}))")

    def test_of_the_form_and_refused_otherwise(self):
        for word in ("abcdefghi", "a.abcdefghi", "a.b.c.d.e", "abcdefghijklmnopqrstuvwxyz"):
            self.assertTrue(is_part_text(word))
            for text in (word, f"(not {word})", f"(a when {word})", f"(a held {word} 3)", f"(before {word} 3)"):
                refused(self, NoName, part_by, text)
        for word in ("128", "-129", "999", "-999", "200"):
            self.assertTrue(is_part_text(word))
            for text in (word, f"(a + {word})", f"(before a {word})", f"(a held c {word})"):
                refused(self, NoPart, part_by, text)
        refused(self, NoPart, part_by, deep(10).text().replace("yes", "(not a)"))
        refused(self, NoPart, part_by, f"(not {large(40).text()})")

    def test_of_two_faults_the_inner_left_one(self):
        for text, error in (
            ("(128 + abcdefghi)", NoPart), ("(abcdefghi + 128)", NoName), ("(128 when abcdefghi)", NoPart),
            ("(a held abcdefghi 128)", NoName), ("(before abcdefghi 128)", NoName),
            ("((before a 128) when abcdefghi)", NoPart), ("(if a (not abcdefghi) 128)", NoName),
            ("(if 128 abcdefghi a)", NoPart), ("((a when abcdefghi) then 128)", NoName),
        ):
            refused(self, error, part_by, text)

    def test_the_form_comes_ahead_of_all_else(self):
        for text in ("(128 + in)", "(abcdefghi + 1000)", "(abcdefghi then 128", "(before 128 a)", "128 abcdefghi",
                     "(abcdefghi  + b)", "(128 held on 999)"):
            self.no_form(text)
