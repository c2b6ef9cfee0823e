import unittest

from runrows.errors import NoName, NoSheet
from runrows.parts import Choice, Given, Named, Pair
from runrows.sheets import Input, Row, Sheet, Use
from runrows.timed import Before, Held, When
from tests.helper import exact, letters, line_tells, refused, sheet_tells

NO_NAMES = ("", "in", "held", "number", "abcdefghi", "Go", "a1", "a.", ".a", "a..b", "a.b.c.d.e", "a b", "a\n")
NO_WORDS = NO_NAMES + ("a.b", "in.out", "end")
STRETCHES = ((0, 0), (-128, 127), (-5, 3), (127, 127), (-128, -128), (0, 1))
NO_STRETCHES = ((1, 0), (127, -128), (-129, 0), (0, 128), (-500, 500), (128, 128), (False, True), (0, True), (False, 3),
                (), (1,), (1, 2, 3), ("0", "1"), (None, None), (0, None))
NO_KINDS = ("", "truths", "Truth", "numbers", "yes", "0..3", "in", "on", " truth", "number ", None, 3, True)
A, ONE = Named("a"), Given(1)


def truth(name, on=None):
    return Row(name, "truth", Given(True), on)


def number(name, on=None):
    return Row(name, "number", Given(1), on)


class Inputs(unittest.TestCase):
    def test_fields(self):
        for name in ("a", "go", "a.in.b"):
            for kind in ("truth", "number") + STRETCHES:
                for on in (None, "c", "c.in"):
                    line = Input(name, kind, on)
                    self.assertEqual(exact((line.name, line.kind, line.on)), exact((name, kind, on)))
                self.assertIs(Input(name, kind).on, None)
        self.assertEqual(line_tells(Input(name="a", kind=(0, 3), on="c")), ("Input", "a", (0, 3), "c"))

    def test_names_that_are_none(self):
        for name in NO_NAMES:
            refused(self, NoName, Input, name, "truth")
            refused(self, NoName, Input, "a", "truth", name)

    def test_kinds_that_are_none(self):
        for kind in NO_KINDS + NO_STRETCHES + ([0, 3], ["truth"], {}):
            refused(self, NoSheet, Input, "a", kind)
            refused(self, NoSheet, Input, "a", kind, "c")

    def test_names_come_ahead_of_kinds(self):
        refused(self, NoName, Input, "in", (3, 1))
        refused(self, NoName, Input, "a", (3, 1), "in")
        refused(self, NoName, Input, "a", "truths", "")


class Rows(unittest.TestCase):
    def test_fields(self):
        for kind in ("truth", "number"):
            for on in (None, "c", "c.in"):
                line = Row("a.b", kind, A, on)
                self.assertEqual((line.name, line.kind, line.on), ("a.b", kind, on))
                self.assertIs(line.part, A)
            self.assertIs(Row("a", kind, A).on, None)
        self.assertEqual(
            line_tells(Row(name="a", kind="truth", part=A, on="c")), ("Row", "a", "truth", ("named", "a"), "c"))

    def test_kinds_of_parts_are_not_looked_at(self):
        self.assertEqual(Row("a", "truth", ONE).kind, "truth")

    def test_names_that_are_none(self):
        for name in NO_NAMES:
            refused(self, NoName, Row, name, "truth", A)
            refused(self, NoName, Row, "a", "truth", A, name)

    def test_kinds_that_are_none(self):
        for kind in NO_KINDS + NO_STRETCHES + STRETCHES:
            refused(self, NoSheet, Row, "a", kind, A)

    def test_names_come_ahead_of_kinds(self):
        refused(self, NoName, Row, "in", (0, 1), A)
        refused(self, NoName, Row, "a", (0, 1), A, "in")


class Uses(unittest.TestCase):
    def test_fields(self):
        for kind in (list, tuple):
            line = Use(kind(["a", "b.in"]), "other", kind([A, ONE]), "c.d")
            self.assertEqual(
                exact((line.binds, line.module, line.on)), exact((("a", "b.in"), "other", "c.d")))
            self.assertIs(type(line.parts), tuple)
            self.assertEqual(len(line.parts), 2)
            self.assertIs(line.parts[0], A)
            self.assertIs(line.parts[1], ONE)
        self.assertIs(Use(["a"], "other", []).on, None)
        self.assertEqual(Use(["a"], "other", []).parts, ())
        self.assertEqual(
            line_tells(Use(binds=["a"], module="m", parts=[A], on="c")),
            ("Use", ("a",), "m", (("named", "a"),), "c"))

    def test_what_is_handed_in_stays_and_may_change_later(self):
        binds, parts = ["a", "b"], [A, ONE]
        line = Use(binds, "other", parts)
        self.assertEqual((binds, parts), (["a", "b"], [A, ONE]))
        binds.append("c")
        parts.clear()
        self.assertEqual(line.binds, ("a", "b"))
        self.assertEqual(len(line.parts), 2)

    def test_names_that_are_none(self):
        for name in NO_NAMES:
            refused(self, NoName, Use, [name], "other", [])
            refused(self, NoName, Use, ["a", name], "other", [])
            refused(self, NoName, Use, [name, "a"], "other", [])
            refused(self, NoName, Use, ["a"], "other", [], name)
        for name in NO_WORDS:
            refused(self, NoName, Use, ["a"], name, [])

    def test_none_eight_and_nine_binds(self):
        refused(self, NoSheet, Use, [], "other", [])
        refused(self, NoSheet, Use, (), "other", [ONE])
        for many in (1, 2, 7, 8):
            self.assertEqual(len(Use(letters(many), "other", []).binds), many)
        for many in (9, 10, 20):
            refused(self, NoSheet, Use, letters(many), "other", [])

    def test_names_come_ahead_of_how_many_there_are(self):
        refused(self, NoName, Use, letters(8) + ["in"], "other", [])
        refused(self, NoName, Use, letters(9), "in", [])
        refused(self, NoName, Use, letters(9), "other", [], "in")
        refused(self, NoName, Use, [], "in", [])
        refused(self, NoName, Use, [], "other", [], "in")

    def test_how_many_parts_there_are_is_not_looked_at(self):
        self.assertEqual(len(Use(["a"], "other", [ONE] * 12).parts), 12)


class Sheets(unittest.TestCase):
    def test_fields(self):
        inputs, outputs = [Input("a", "number"), Input("go", "truth")], ["b", "a"]
        lines = [Row("b", "number", A), Use(["x.in", "y"], "other", [A]), Row("z", "truth", Named("x.in"), "go")]
        for kind in (list, tuple):
            sheet = Sheet("some", kind(inputs), kind(outputs), kind(lines))
            self.assertEqual(sheet.name, "some")
            self.assertEqual(exact(sheet.outputs), exact(("b", "a")))
            for got, want in ((sheet.inputs, inputs), (sheet.lines, lines)):
                self.assertIs(type(got), tuple)
                self.assertEqual([id(one) for one in got], [id(one) for one in want])
            self.assertEqual(exact(sheet.names()), exact(["a", "go", "b", "x.in", "y", "z"]))
            for name, line in zip(sheet.names(), inputs + [lines[0], lines[1], lines[1], lines[2]]):
                self.assertIs(sheet.line(name), line)
        named = Sheet(name="some", inputs=inputs, outputs=outputs, lines=lines)
        self.assertEqual(sheet_tells(named), sheet_tells(sheet))

    def test_what_is_handed_in_stays_and_may_change_later(self):
        inputs, outputs, lines = [Input("a", "number")], ["b"], [Row("b", "number", A)]
        sheet = Sheet("some", inputs, outputs, lines)
        told = sheet_tells(sheet)
        self.assertEqual([len(inputs), outputs, len(lines)], [1, ["b"], 1])
        inputs.clear()
        outputs.append("in")
        lines[0] = truth("c")
        self.assertEqual(sheet_tells(sheet), told)
        self.assertEqual(sheet.names(), ["a", "b"])
        self.assertEqual(line_tells(sheet.line("b")), ("Row", "b", "number", ("named", "a"), None))

    def test_the_list_of_names_is_the_askers_own(self):
        sheet = Sheet("some", [Input("a", "number")], ["b"], [Row("b", "number", A), Use(["x"], "other", [])])
        sheet.names().append("more")
        sheet.names().clear()
        self.assertEqual(sheet.names(), ["a", "b", "x"])
        self.assertIsNot(sheet.names(), sheet.names())
        self.assertEqual(sheet.line("x").binds, ("x",))

    def test_names_that_are_no_words(self):
        for name in NO_WORDS:
            refused(self, NoName, Sheet, name, [], ["b"], [number("b")])

    def test_the_name_comes_ahead_of_all_else(self):
        refused(self, NoName, Sheet, "in", [], [], [])
        refused(self, NoName, Sheet, "a.b", [], ["x"], [number("b")])
        refused(self, NoName, Sheet, "abcdefghi", [], ["b"], [number("b"), number("b")])

    def test_eight_and_nine_inputs(self):
        for many in (0, 1, 8):
            sheet = Sheet("some", [Input(name, "number") for name in letters(many)], ["b"], [number("b")])
            self.assertEqual(len(sheet.inputs), many)
        for many in (9, 10):
            inputs = [Input(name, "number") for name in letters(many)]
            refused(self, NoSheet, Sheet, "some", inputs, ["b"], [number("b")])

    def test_none_eight_and_nine_outputs(self):
        lines = [number(name) for name in letters(12)]
        for many in (1, 8):
            self.assertEqual(Sheet("some", [], letters(many), lines).outputs, tuple(letters(many)))
        for many in (0, 9, 12):
            refused(self, NoSheet, Sheet, "some", [], letters(many), lines)

    def test_an_output_twice(self):
        lines = [number("a"), number("b")]
        for outputs in (["a", "a"], ["a", "b", "a"], ["b", "a", "a"]):
            refused(self, NoSheet, Sheet, "some", [], outputs, lines)

    def test_one_eighty_and_more_lines(self):
        for many in (1, 2, 80):
            lines = [number(name) for name in letters(many)]
            self.assertEqual(Sheet("some", [], letters(1), lines).names(), letters(many))
        for many in (81, 82, 100):
            refused(self, NoSheet, Sheet, "some", [], letters(1), [number(name) for name in letters(many)])
        refused(self, NoSheet, Sheet, "some", [Input("a", "number")], ["a"], [])

    def test_eighty_lines_may_have_more_names(self):
        names = letters(640)
        lines = [Use(names[at:at + 8], "other", []) for at in range(0, 640, 8)]
        sheet = Sheet("some", [], names[-8:], lines)
        self.assertEqual(sheet.names(), names)
        self.assertIs(sheet.line(names[639]), lines[79])

    def test_a_name_twice(self):
        for inputs, lines in (
            ([Input("a", "number"), Input("a", "truth")], [number("b")]),
            ([Input("a", "number")], [number("b"), number("a")]),
            ([], [number("b"), number("a"), number("b")]),
            ([], [number("b"), Use(["a", "a"], "other", [])]),
            ([], [number("b"), Use(["a", "b"], "other", [])]),
            ([], [Use(["b"], "other", []), Use(["a", "b"], "other", [])]),
            ([Input("a", "number")], [number("b"), Use(["c", "a"], "other", [])]),
        ):
            refused(self, NoSheet, Sheet, "some", inputs, ["b"], lines)

    def test_outputs_that_are_none_of_the_names(self):
        inputs, lines = [Input("a", "number")], [number("b"), Use(["c.d"], "other", [])]
        self.assertEqual(Sheet("some", inputs, ["c.d", "a", "b"], lines).outputs, ("c.d", "a", "b"))
        for output in ("x", "other", "some", "c", "d", "in", "abcdefghi", ""):
            refused(self, NoSheet, Sheet, "some", inputs, [output], lines)
            refused(self, NoSheet, Sheet, "some", inputs, ["b", output], lines)

    def test_names_in_parts_that_are_none_of_the_names(self):
        inputs = [Input("a", "number"), Input("c", "truth")]
        x = Named("x")
        for part in (x, Pair("+", A, x), Before(x), When(A, "x"), Held(Before(A), "x", 1), Choice(Named("c"), A, x)):
            refused(self, NoSheet, Sheet, "some", inputs, ["b"], [Row("b", "number", part)])
            refused(self, NoSheet, Sheet, "some", inputs, ["b"], [number("b"), Use(["y"], "other", [part])])
            refused(self, NoSheet, Sheet, "some", inputs, ["b"], [number("b"), Use(["y"], "other", [A, part])])
            for more in (number("x"), Use(["x"], "other", [])):
                lines = [Row("b", "number", part), Use(["y"], "other", [A, part]), more]
                self.assertEqual(Sheet("some", inputs, ["b"], lines).names(), ["a", "c", "b", "y", "x"])
        refused(self, NoSheet, Sheet, "some", inputs, ["b"], [Row("b", "number", Named("some"))])
        refused(self, NoSheet, Sheet, "some", inputs, ["b"], [number("b"), Use(["y"], "other", [Named("other")])])

    def test_parts_may_name_their_own_row_and_later_ones(self):
        lines = [Row("a", "number", Pair("+", Named("b"), Named("a"))), Row("b", "number", Named("a"))]
        self.assertEqual(Sheet("some", [], ["a"], lines).names(), ["a", "b"])


class Ons(unittest.TestCase):
    def on_each(self, on, more, lines):
        """The arguments of sheets in which an input, a row and a use have this on."""
        return [
            ("some", [Input("p", "number", on)] + more, ["b"], [number("b")] + lines),
            ("some", more, ["b"], [number("b", on)] + lines),
            ("some", more, ["b"], [number("b"), Use(["p", "q"], "other", [], on)] + lines),
        ]

    def test_an_input_of_truths(self):
        for handed in self.on_each("c", [Input("c", "truth")], []):
            self.assertIn("c", Sheet(*handed).names())

    def test_a_row_of_truths(self):
        for handed in self.on_each("c", [], [truth("c")]):
            self.assertIn("c", Sheet(*handed).names())

    def test_one_of_numbers(self):
        for kind in ("number", (0, 1), (0, 0)):
            for handed in self.on_each("c", [Input("c", kind)], []):
                refused(self, NoSheet, Sheet, *handed)
        for handed in self.on_each("c", [], [number("c")]):
            refused(self, NoSheet, Sheet, *handed)
        for handed in self.on_each("c", [], [Row("c", "number", Given(True))]):
            refused(self, NoSheet, Sheet, *handed)

    def test_a_bind(self):
        for binds in (["c"], ["x", "c"]):
            for handed in self.on_each("c", [], [Use(binds, "other", [])]):
                refused(self, NoSheet, Sheet, *handed)

    def test_none_of_the_names(self):
        for on in ("x", "other", "some"):
            for handed in self.on_each(on, [], [Use(["c"], "other", [])]):
                refused(self, NoSheet, Sheet, *handed)

    def test_a_bind_of_its_own(self):
        refused(self, NoSheet, Sheet, "some", [], ["b"], [number("b"), Use(["p", "q"], "other", [], "q")])

    def test_one_that_has_an_on(self):
        chain = [truth("c", "d"), truth("d", "e"), truth("e")]
        for handed in self.on_each("c", [Input("x", "truth", "e")], chain):
            self.assertEqual(Sheet(*handed).line("c").on, "d")
        for handed in self.on_each("c", [Input("c", "truth", "d"), Input("d", "truth")], []):
            self.assertEqual(Sheet(*handed).line("c").on, "d")

    def test_two_ways_to_one_do_not_come_round(self):
        lines = [truth("b", "c"), truth("d", "c"), truth("c", "e"), truth("e"), truth("f", "e")]
        self.assertEqual(Sheet("some", [], ["b"], lines).names(), ["b", "d", "c", "e", "f"])

    def test_itself(self):
        refused(self, NoSheet, Sheet, "some", [], ["b"], [truth("b", "b")])
        refused(self, NoSheet, Sheet, "some", [], ["b"], [number("b"), truth("c", "c")])
        refused(self, NoSheet, Sheet, "some", [Input("a", "truth", "a")], ["b"], [number("b")])

    def test_one_that_comes_round_through_others(self):
        for many in (2, 3, 4, 79):
            names = letters(many)
            ring = [truth(name, on) for name, on in zip(names, names[1:] + names[:1])]
            refused(self, NoSheet, Sheet, "some", [], names[:1], ring)
            refused(self, NoSheet, Sheet, "some", [], ["b"], [truth("b", names[0])] + ring)
            refused(self, NoSheet, Sheet, "some", [], names[:1], ring[::-1])
            straight = [truth(name, on) for name, on in zip(names, names[1:] + [None])]
            self.assertEqual(len(Sheet("some", [], names[:1], straight).names()), many)

    def test_one_that_comes_round_through_inputs(self):
        inputs = [Input("a", "truth", "b")]
        refused(self, NoSheet, Sheet, "some", inputs, ["b"], [truth("b", "a")])
        refused(self, NoSheet, Sheet, "some", inputs + [Input("b", "truth", "a")], ["c"], [truth("c")])
        self.assertEqual(Sheet("some", inputs, ["b"], [truth("b")]).line("a").on, "b")

    def test_parts_do_not_count_as_coming_round(self):
        lines = [Row("b", "truth", Named("c")), Row("c", "truth", Named("b"), "b")]
        self.assertEqual(Sheet("some", [], ["b"], lines).names(), ["b", "c"])
