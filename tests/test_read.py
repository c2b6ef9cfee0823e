import random
import unittest

from runrows.errors import NoName, NoPart, NoSheet, NoText
from runrows.texts import read, written
from tests.forms import first_fault
from tests.helper import deep, exact, large, letters, refused
from tests.test_written import FULL

KEPT = ("module", "in", "out", "row", "use", "end", "number", "truth", "on", "yes", "no", "not", "and", "or", "if",
        "before", "then", "when", "held")
NO_NAMES = KEPT + ("", "A", "aB", "a1", "1", "-1", "a_b", "a-b", "a.", ".a", ".", "a..b", "a.1", "=", "(a)", "a\t", "\t")
NO_NUMBERS = ("00", "01", "-0", "-00", "-01", "007", "1000", "-1000", "+1", "--1", "-", "1-", "", "a", "yes", "1.", ".1")
# Of the form, but none when something is made of it.
LONG_NAMES = ("abcdefghi", "a.abcdefghi", "a.b.c.d.e")
FAR_NUMBERS = ("128", "-129", "999", "-999")


def module(rows, name="one"):
    """The text of a module with these rows."""
    return "".join(row + "\n" for row in [f"module {name}"] + list(rows) + ["end"])


GOOD = module(["in i number", "in t truth", "out a", "row a number = 1", "use b = other i"])
OTHER = module(["in i number", "out i", "row c number = 1"], "other")


class NoForm(unittest.TestCase):
    def no_form(self, row, text):
        self.assertEqual(first_fault(text), row, text)
        self.assertEqual(exact(refused(self, NoText, read, text).row), exact(row), text)

    def no_row(self, row):
        """This row is of no form, wherever it stands."""
        rows = ["in i number", "out a", "row a number = 1", "end", "module two", "out a", "row a number = 1", "end"]
        for at in range(len(rows) + 1):
            text = "".join(one + "\n" for one in ["module one"] + rows[:at] + [row] + rows[at:])
            self.no_form(at + 1, text)
        self.no_form(0, row + "\n" + GOOD)
        self.no_form(0, row + "\n")

    def test_no_text_at_all(self):
        self.no_form(0, "")
        self.no_form(0, "\n")
        self.no_form(0, " ")
        self.no_form(0, " \n")
        self.no_form(0, "\n\n")
        self.no_form(0, "module")
        self.no_form(0, "module one")
        self.no_form(0, "end")
        self.no_form(0, "end\n")

    def test_a_last_row_that_is_not_ended(self):
        rows = (OTHER + GOOD).split("\n")[:-1]
        for many in range(len(rows)):
            text = "".join(row + "\n" for row in rows[:many])
            self.no_form(many, text + rows[many])
            self.no_form(many, text + rows[many][:1])
            self.no_form(many, text + " ")
        self.no_form(len(rows), OTHER + GOOD + "module")
        self.no_form(len(rows), OTHER + GOOD + "\t")

    def test_a_module_without_its_end(self):
        rows = (OTHER + GOOD).split("\n")[:-1]
        for many in list(range(5)) + list(range(6, len(rows))):
            self.no_form(many, "".join(row + "\n" for row in rows[:many]))
        for at, row in enumerate(rows[:-1]):
            if row == "end":
                self.no_form(at, "".join(one + "\n" for one in rows[:at] + rows[at + 1:]))

    def test_rows_behind_the_last_end(self):
        for row in ("", " ", "end", "in x number", "out a", "row x number = 1", "use x = one", "none"):
            self.no_form(7, GOOD + row + "\n")
            self.no_form(12, OTHER + GOOD + row + "\n")

    def test_rows_at_other_places(self):
        for rows, at in (
            (["out a", "in i number", "row a number = 1"], 2),
            (["row a number = 1", "out a"], 2),
            (["row a number = 1", "in i number", "out a"], 2),
            (["use b = other", "out a"], 2),
            (["use b = other", "in i number"], 2),
            (["in i number", "out a", "row a number = 1", "out i"], 4),
            (["in i number", "out a", "row a number = 1", "use b = other", "in x truth"], 5),
            (["module two", "out a", "row a number = 1"], 1),
            (["in i number", "module two"], 2),
            (["out a", "row a number = 1", "module two"], 3),
            (["out a", "row a number = 1", "use b = c", "module one"], 4),
            (["out a", "row a number = 1", "end"], 4),
            (["end", "out a"], 2),
        ):
            self.no_form(at, module(rows))
            self.no_form(at + 5, OTHER + module(rows))

    def test_rows_told_twice(self):
        self.no_form(1, "module one\n" + GOOD)
        self.no_form(7, GOOD + "end\n")
        rows = ["in i number", "out a", "row a number = 1"]
        for at in range(3):
            # Twice one behind the other they may stand there: then names stand twice.
            refused(self, NoSheet, read, module(rows[:at + 1] + rows[at:]))

    def test_rows_left_out(self):
        rows = GOOD.split("\n")[:-1]
        self.no_form(0, "".join(row + "\n" for row in rows[1:]))
        self.no_form(6, "".join(row + "\n" for row in rows[:-1]))

    def test_other_rows(self):
        for row in ("", " ", "\t", "none", "Module one", "modul one", "# a", "in", "out", "row", "use", "module", "end end",
                    "End", "ends", "en d", "a", "1", "(not a)", "=", "yes", "inn a number", "rowa number = 1"):
            self.no_row(row)

    def test_blanks(self):
        for row in ("module two", "in x number", "in x truth on t", "in x -5..3", "in x 0..3 on t", "out x",
                    "row x number = 1", "row x truth on t = (not t)", "use x = other", "use x y = other 1 (not t)",
                    "use x y on t = other (1 + -2) no", "end"):
            self.assertNotEqual(first_fault(row + "\n"), None)
            for other in (" " + row, row + " ", "  " + row, row + "\t", "\t" + row):
                self.no_row(other)
            for at, sign in enumerate(row):
                if sign == " ":
                    for other in ("  ", "\t", " \t", "\t "):
                        self.no_row(row[:at] + other + row[at + 1:])

    def test_blanks_left_out(self):
        for row in ("moduletwo", "inx number", "in xnumber", "in x numberon t", "in x number ont", "outx", "rowx number = 1",
                    "row xnumber = 1", "row x number= 1", "row x number =1", "row x number=1", "row x numberon t = 1",
                    "row x number ont = 1", "row x number on t= 1", "row x truth = (nott)", "usex = other",
                    "use x= other", "use x =other", "use x = other1", "use x = other 1(not t)", "use x y ont= other",
                    "use xon t = other 1 (not t"):
            self.no_row(row)

    def test_tabs(self):
        for row in ("in\tx number", "row x number =\t1", "row x number = 1\t", "end\t", "row x truth = (not\tt)",
                    "use x\ty = other", "out x\t", "\tout x"):
            self.no_row(row)

    def test_names_that_are_none(self):
        for name in NO_NAMES:
            for row in (f"module {name}", f"in {name} number", f"in x truth on {name}", f"in x 0..3 on {name}",
                        f"out {name}", f"row {name} number = 1", f"row x number on {name} = 1", f"use {name} = other",
                        f"use x = {name}", f"use x = {name} 1", f"use x on {name} = other", f"use {name} x = other",
                        f"use {name} on t = other", f"use x {name} on t = other",
                        f"row x truth = (a when {name})", f"use x = other (a held {name} 3)"):
                self.no_row(row)
            if name not in ("=", ""):
                self.no_row(f"use x {name} = other")

    def test_parts_that_are_none(self):
        for part in NO_NAMES + NO_NUMBERS + ("(a)", "(not a", "not a)", "a b", "(a b)", "(a + )", "(a  + b)"):
            if part in ("1", "-1", "yes", "no", "a"):
                continue
            for row in (f"row x number = {part}", f"row x truth on t = {part}", f"row x truth = (not {part})"):
                self.no_row(row)
            if part != "a b":
                self.no_row(f"use x = other {part}")
                self.no_row(f"use x = other 1 {part}")
                self.no_row(f"use x on t = other {part} 1")

    def test_kinds_that_are_none(self):
        for kind in ("", "truths", "Truth", "numbers", "a", "yes", "0", "0.3", "0...3", "0....3", "0..", "..3", "..", "0 ..3",
                     "0.. 3", "a..b", "0..3..5", "(0..3)", "0-3"):
            self.no_row(f"in x {kind}")
            self.no_row(f"in x {kind} on t")
            self.no_row(f"row x {kind} = 1")
        for number in NO_NUMBERS:
            self.no_row(f"in x {number}..3")
            self.no_row(f"in x -3..{number}")
            self.no_row(f"in x 0..{number} on t")

    def test_a_row_below_has_no_stretch(self):
        for kind in ("0..3", "-128..127", "0..0"):
            self.no_row(f"row x {kind} = 1")
            self.no_row(f"row x {kind} on t = 1")

    def test_too_few_and_too_many_words(self):
        for row in ("module", "module two three", "module two on t", "in x", "in number", "in x number t", "in x number on",
                    "in x number on t u", "in x number number", "in x on t", "in x number on t on u", "in x number = 1",
                    "out", "out x y", "out x number", "out x on t", "row x = 1", "row number = 1", "row x number",
                    "row x number =", "row x number 1", "row x number = 1 2", "row x number = 1 on t", "row x number on = 1",
                    "row x number on t", "row x number on t u = 1", "row x y number = 1", "row x number = = 1",
                    "row x number t = 1", "row = 1", "row x number on t =", "use = other", "use x other", "use x",
                    "use x =", "use on t = other", "use x on = other", "use x on t y = other", "use x on t on u = other",
                    "use x = other on t", "use x = = other", "use x = (not t)", "use x = 1", "use x = other = 1",
                    "end one", "end module"):
            self.no_row(row)

    def test_twenty_and_twenty_one_brackets(self):
        for depth in (20, 21, 22, 3000):
            for part in ("(not " * depth + "t" + ")" * depth, "(" * depth + "t" + " and t)" * depth):
                for row in (f"row x truth = {part}", f"use x = other 1 {part}"):
                    if depth == 20:
                        text = module(["in t truth", "out t", row])
                        self.assertIsNone(first_fault(text))
                        refused(self, NoPart, read, text)
                    else:
                        self.no_row(row)

    def test_the_first_row_of_several(self):
        self.no_form(2, module(["in i number", "in", "out", "row"]))
        self.no_form(2, module(["out a", "in i number", "none"]))
        self.no_form(2, "module one\nout a\nnone\nnone")
        self.no_form(1, "module one\nnone\n\n\n")
        self.no_form(8, GOOD + "module two\nnone")

    def test_ahead_of_every_other_refusal(self):
        bad = ["module abcdefghi", "in abcdefghi 5..3 on abcdefghi", "in a 0..999", "out abcdefghi", "row x number = 128",
               "row abcdefghi truth = (not abcdefghi)", "use " + " ".join(letters(9)) + " = a.b 999", "end"]
        text = "".join(row + "\n" for row in bad)
        self.assertIsNone(first_fault(text))
        for many in range(1, 8):
            self.no_form(many * 8, text * many + "none\n")
            self.no_form(many * 8, text * many + "\n")
            self.no_form(many * 8 + 7, text * many + text[:-4])
            self.no_form(many * 8 + 7, text * many + text[:-1])
        self.no_form(5, module(bad[1:5] + ["row x number = 1000"]))
        self.no_form(8, GOOD + "module two\nin in number\n")
        self.no_form(3, "module one\nend\nmodule one\n")


class RefusedOtherwise(unittest.TestCase):
    def refuse(self, error, text):
        self.assertIsNone(first_fault(text), text)
        refused(self, error, read, text)

    def test_long_names(self):
        ahead = ["in i number", "in t truth"]
        for name in LONG_NAMES:
            for row in (f"in {name} number", f"in x number on {name}"):
                self.refuse(NoName, OTHER + module(ahead + [row, "out a", "row a number = 1"]))
            for row in (f"row {name} number = 1", f"row x number on {name} = 1", f"row x number = {name}",
                        f"row x number = (a + (before {name}))", f"row x number = (1 when {name})",
                        f"row x number = (1 held {name} 3)", f"use {name} = other 1", f"use x {name} = other 1",
                        f"use x on {name} = other 1", f"use x = {name} 1", f"use x = other {name}",
                        f"use x = other 1 (not {name})"):
                self.refuse(NoName, OTHER + module(ahead + ["out a", "row a number = 1", row]))
            self.refuse(NoName, module(["out a", "row a number = 1"], name))

    def test_modules_of_several_words(self):
        self.refuse(NoName, module(["out a", "row a number = 1"], "a.b"))
        self.refuse(NoName, OTHER + module(["out a", "row a number = 1", "use x = other.in 1"]))

    def test_an_output_of_a_long_name_is_none_of_the_names(self):
        for name in LONG_NAMES + ("x", "in.a"):
            self.refuse(NoSheet, module([f"out {name}", "row a number = 1"]))

    def test_numbers_beyond(self):
        for number in FAR_NUMBERS:
            for part in (number, f"(a + {number})", f"(before a {number})", f"(a held t {number})", f"({number} then a)"):
                for row in (f"row x number = {part}", f"use x = other {part}", f"use x = other 1 {part}"):
                    self.refuse(NoPart, module(["in t truth", "out a", "row a number = 1", row]))
            self.refuse(NoSheet, module([f"in x {number}..{number}", "out a", "row a number = 1"]))
        for kind in ("0..128", "-129..0", "-999..999", "0..999 on t"):
            self.refuse(NoSheet, module(["in t truth", f"in x {kind}", "out a", "row a number = 1"]))

    def test_stretches_turned_about(self):
        for kind in ("1..0", "127..-128", "-1..-2", "3..2 on t"):
            self.refuse(NoSheet, module(["in t truth", f"in x {kind}", "out a", "row a number = 1"]))

    def test_deep_and_large_parts(self):
        for text in (deep(10).text().replace("yes", "(not t)"), f"(not {large(40).text()})"):
            self.refuse(NoPart, module(["in t truth", "out x", f"row x truth = {text}"]))
            self.refuse(NoPart, OTHER + module(["in t truth", "out x", f"use x = other {text}"]))
        for text in (deep(10).text(), large(40).text()):
            self.assertEqual(read(module(["out x", f"row x truth = {text}"])).main().line("x").part.text(), text)

    def test_nine_binds(self):
        self.refuse(NoSheet, module(["out a", "row a number = 1", "use " + " ".join(letters(9)) + " = other"]))

    def test_sheets_as_point_21(self):
        ins, rows = [f"in {name} number" for name in letters(9)], [f"row {name} number = 1" for name in letters(81)]
        a = ["out a", "row a number = 1"]
        self.assertEqual(len(read(module(ins[:8] + a)).main().inputs), 8)
        self.assertEqual(len(read(module(["out qaa"] + rows[:80])).main().lines), 80)
        for text in (
            module([]), module(["out a"]), module(["row a number = 1"]), module(["in a number", "out a"]),
            module(["use a = other"]), module(["in b number"]), module(["in b number", "row a number = 1"]),
            module(["in b number", "use a = other"]),
            module(ins + a), module(["out qaa"] + rows), module([f"out {name}" for name in letters(9)] + rows[:9]),
            module(["out a"] + a), module(a + a[1:]), module(["in a number"] + a), module(a + ["use b a = other"]),
            module(["out x"] + a), module(a + ["row b number = x"]), module(a + ["use b = other x"]),
            module(a + ["row b number = (before (1 when x))"]), module(a + ["row b number on x = 1"]),
            module(["in b number on x"] + a), module(a + ["use b on x = other"]), module(a + ["row b number on a = 1"]),
            module(a + ["row b truth on b = yes"]), module(a + ["use b = other", "row c number on b = 1"]),
            module(a + ["row b truth on c = yes", "row c truth on b = yes"]),
        ):
            self.refuse(NoSheet, text)

    def test_books_as_point_22(self):
        a = ["out a", "row a number = 1"]
        one, use = module(a), ["out b", "use b = one"]
        texts = [module(a, name) for name in letters(7)]
        self.assertEqual(len(read("".join(texts[:6])).sheets), 6)
        self.refuse(NoSheet, "".join(texts))
        self.refuse(NoSheet, one + one)
        self.refuse(NoSheet, module(use))
        self.refuse(NoSheet, module(use, "two"))
        self.refuse(NoSheet, module(use, "two") + one)
        self.assertEqual(read(one + module(use, "two")).main().name, "two")
        self.refuse(NoSheet, one + module(["out b", "use b = one 1"], "two"))
        self.refuse(NoSheet, one + module(["out b", "use b c = one"], "two"))
        self.refuse(NoSheet, OTHER + module(["out b", "use b = other"], "two"))
        for text in (["in t truth on u", "in u truth"] + a,
                     ["in t truth", "in u truth", "out a", "row a number on t = 1"],
                     ["in t truth", "in u truth", "out a", "use a on t = other 1"]):
            self.refuse(NoSheet, OTHER + module(text) + module(["out b", "use b = one yes no"], "two"))


class TwoFaults(unittest.TestCase):
    def refuse(self, error, text):
        self.assertIsNone(first_fault(text), text)
        refused(self, error, read, text)

    def test_within_a_row(self):
        a = ["out a", "row a number = 1"]
        for row, error in (
            ("row abcdefghi number = 128", NoPart), ("row x number on abcdefghi = 128", NoPart),
            ("row x number = (128 + abcdefghi)", NoPart), ("row x number = (abcdefghi + 128)", NoName),
            ("row x number = (128 when abcdefghi)", NoPart), ("row x number = (1 held abcdefghi 128)", NoName),
            ("use abcdefghi = other 128", NoPart), ("use x = a.b 128", NoPart), ("use x = other 128 abcdefghi", NoPart),
            ("use x = other abcdefghi 128", NoName), ("use x = other (not 128) abcdefghi", NoPart),
            ("use " + " ".join(letters(9)) + " = a.b", NoName), ("use " + " ".join(letters(9)) + " = other 128", NoPart),
            ("use " + " ".join(letters(8)) + " abcdefghi = other", NoName),
        ):
            self.refuse(error, module(a + [row]))
        for row in ("in abcdefghi 5..3", "in x 0..999 on abcdefghi"):
            self.refuse(NoName, module([row] + a))

    def test_row_by_row(self):
        faults = {NoName: ["in abcdefghi number"], NoSheet: ["in x 5..3", "in y 0..128"]}
        for one in faults:
            for other in faults:
                for first in faults[one]:
                    for second in faults[other]:
                        self.refuse(one, module([first, second, "out a", "row a number = 1"]))
        lines = {
            NoName: ["row abcdefghi number = 1", "row x number = abcdefghi", "use x = a.b"],
            NoPart: ["row x number = 128", "use y = other 128"],
            NoSheet: ["use " + " ".join(letters(9)) + " = other"],
        }
        for one in lines:
            for first in lines[one]:
                for other in lines:
                    for second in lines[other]:
                        self.refuse(one, module(["out a", "row a number = 1", first, second]))
                self.refuse(NoSheet, module(["in x 5..3", "out a", first]))
                self.refuse(NoName, module(["in abcdefghi 5..3", "out a", first]))

    def test_rows_ahead_of_their_sheet(self):
        for row, error in (("row x number = 128", NoPart), ("row abcdefghi number = 1", NoName)):
            self.refuse(error, module(["out none", "row a number = b", "row a number = 1", row]))
            self.refuse(error, module(["out abcdefghi", row]))
            self.refuse(error, module(["row a number on a = 1", row]))
        self.refuse(NoPart, module(["out a", "row a number = 128"], "abcdefghi"))
        self.refuse(NoSheet, module(["in a 5..3", "out b", "row b number = 1"], "abcdefghi"))

    def test_the_name_of_a_sheet_ahead_of_the_rest_of_it(self):
        self.refuse(NoName, module([], "abcdefghi"))
        self.refuse(NoName, module(["out none", "row a number = 1"], "a.b"))

    def test_sheet_by_sheet(self):
        good = ["out a", "row a number = 1"]
        faults = (
            (NoPart, module(["out a", "row a number = 128"])), (NoName, module(["out a", "row abcdefghi number = 1"])),
            (NoSheet, module(["out b", "row a number = 1"])), (NoName, module(good, "abcdefghi")),
            (NoSheet, module(["in a 5..3", "out a", "row b number = 1"])), (NoSheet, module([])),
        )
        for error, text in faults:
            for ignored, other in faults:
                self.refuse(error, text + other)
                self.refuse(error, module(good, "two") + text + other)

    def test_sheets_ahead_of_the_book(self):
        good = ["out a", "row a number = 1"]
        for text, error in ((module(["out a", "row a number = 128"], "last"), NoPart),
                            (module(["out a", "row abcdefghi number = 1"], "last"), NoName),
                            (module(good, "abcdefghi"), NoName)):
            self.refuse(error, module(good) + module(good) + text)
            self.refuse(error, module(["out b", "use b = none"]) + text)
            self.refuse(error, "".join(module(good, name) for name in letters(7)) + text)
            self.refuse(error, module(good) + module(["out b", "use b = one 1"], "two") + text)


class Changed(unittest.TestCase):
    """Texts that are changed by a sign, a word or a row: the patterns of tests/forms.py tell what read is to tell."""

    def look(self, text):
        row = first_fault(text)
        try:
            book = read(text)
        except NoText as error:
            self.assertEqual(exact(error.row), exact(row), text)
        except (NoName, NoPart, NoSheet):
            self.assertIsNone(row, text)
        else:
            self.assertIsNone(row, text)
            self.assertEqual(written(book), text)

    def test_each_sign_left_out_or_told_twice(self):
        for at in range(len(FULL)):
            self.look(FULL[:at] + FULL[at + 1:])
            self.look(FULL[:at + 1] + FULL[at:])

    def test_each_row_left_out_or_told_twice_or_changed_with_the_next(self):
        rows = FULL.split("\n")
        for at in range(len(rows)):
            self.look("\n".join(rows[:at] + rows[at + 1:]))
            self.look("\n".join(rows[:at + 1] + rows[at:]))
            self.look("\n".join(rows[:at] + rows[at:at + 2][::-1] + rows[at + 2:]))

    def test_each_word_left_out_or_another(self):
        rows = FULL.split("\n")
        for at, row in enumerate(rows):
            words = row.split(" ")
            for place in range(len(words)):
                for others in ([], [words[place]] * 2, ["a"], ["on"], ["="], ["1"], ["(not"], ["a)"], ["abcdefghi"]):
                    changed = " ".join(words[:place] + others + words[place + 1:])
                    self.look("\n".join(rows[:at] + [changed] + rows[at + 1:]))

    def test_several_changes(self):
        source = random.Random(5)
        for _ in range(1500):
            signs = list(FULL[:source.choice([33, 160, len(FULL)])])
            for _ in range(source.randint(1, 3)):
                at = source.randrange(len(signs))
                signs[at] = source.choice([signs[at], ""]) + source.choice(list("ab.0 1-()=\t\n") + ["", ""])
            self.look("".join(signs))
