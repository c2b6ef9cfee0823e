import random
import unittest

from runrows.errors import NoSheet
from runrows.needs import needs_of
from runrows.parts import Choice, Given, Named, Pair, Turned
from runrows.sheets import Input, Row, Sheet, Use
from runrows.timed import Before, Held, Led, When
from tests.any_sheets import any_sheet, told_needs
from tests.helper import named, sheet_tells

ONE, YES = Given(1), Given(True)
A, B, C = Named("a"), Named("b"), Named("c")
INPUTS = (Input("a", "number"), Input("b", (0, 3), "c"), Input("c", "truth"), Input("d", "truth", "c"))


def needs_by(part, on=None):
    return needs_of(Sheet("main", INPUTS, ["k"], [Row("k", "number", part, on)]))["k"]


class NeedsOf(unittest.TestCase):
    def test_inputs(self):
        needs = needs_of(Sheet("main", INPUTS, ["k"], [Row("k", "number", ONE)]))
        self.assertIs(type(needs), dict)
        self.assertEqual(list(needs.items()), [("a", []), ("b", ["c"]), ("c", []), ("d", ["c"]), ("k", [])])
        for names in needs.values():
            self.assertIs(type(names), list)

    def test_rows_in_order(self):
        rows = [Row("z", "truth", YES, "d"), Row("y", "number", named("b", "z", "a", "b")), Row("x", "number", C)]
        needs = needs_of(sheet=Sheet("main", INPUTS[::-1], ["z"], rows))
        self.assertEqual(list(needs.items()), [
            ("d", ["c"]), ("c", []), ("b", ["c"]), ("a", []), ("z", ["d"]), ("y", ["b", "z", "a"]), ("x", ["c"])])

    def test_parts(self):
        for part, names in (
            (ONE, []), (A, ["a"]), (Turned(C), ["c"]), (Pair("+", B, A), ["b", "a"]), (Pair("+", A, A), ["a"]),
            (Choice(C, B, A), ["c", "b", "a"]), (Led(B, C), ["b", "c"]), (When(A, "c"), ["a", "c"]),
            (Held(B, "c"), ["b", "c"]), (When(Held(B, "c"), "a"), ["b", "c", "a"]), (Held(ONE, "d", 3), ["d"]),
        ):
            self.assertEqual(needs_by(part), names, part.text())

    def test_what_stands_in_a_before(self):
        for part, names in (
            (Before(A), []), (Before(Pair("+", A, B), 3), []), (Before(When(A, "c")), []), (Pair("+", Before(A), B), ["b"]),
            (Pair("+", A, Before(B)), ["a"]), (Pair("+", Before(A), A), ["a"]), (Held(Before(A), "c"), ["c"]),
            (Led(A, Before(Named("k"))), ["a"]), (Turned(Before(Held(B, "d"))), []),
        ):
            self.assertEqual(needs_by(part), names, part.text())

    def test_the_on_behind_them(self):
        for part, on, names in (
            (ONE, "c", ["c"]), (A, "c", ["a", "c"]), (C, "c", ["c"]), (Pair("+", C, A), "c", ["c", "a"]),
            (When(A, "c"), "c", ["a", "c"]), (When(C, "d"), "c", ["c", "d"]), (Before(C), "c", ["c"]),
            (Pair("+", Before(C), B), "c", ["b", "c"]), (Pair("+", A, B), "d", ["a", "b", "d"]),
        ):
            self.assertEqual(needs_by(part, on), names, part.text())

    def test_the_row_itself(self):
        self.assertEqual(needs_by(Pair("+", Named("k"), A)), ["k", "a"])
        self.assertEqual(needs_by(Before(Named("k"))), [])

    def test_lists_of_ones_own(self):
        rows = [Row("k", "number", ONE), Row("m", "number", ONE), Row("o", "number", A, "c"), Row("q", "number", A, "c")]
        sheet = Sheet("main", INPUTS, ["k"], rows)
        needs = needs_of(sheet)
        told = {name: list(names) for name, names in needs.items()}
        for name in needs:
            needs[name].append(name)
            self.assertEqual([other for other in needs if name in needs[other][len(told[other]):]], [name])
            needs[name].pop()
        for name in needs:
            needs[name].append("new")
        needs.clear()
        self.assertEqual(needs_of(sheet), told)

    def test_a_sheet_with_a_use(self):
        use = Use(["p"], "other", [A])
        for lines in ([use], [Row("k", "number", ONE), use], [use, Row("k", "number", Named("k"))]):
            with self.assertRaises(NoSheet):
                needs_of(Sheet("main", INPUTS, ["p"], lines))

    def test_the_sheet_stays(self):
        sheet = Sheet("main", INPUTS, ["k"], [Row("k", "number", Pair("+", A, B), "c")])
        told = sheet_tells(sheet)
        needs_of(sheet)
        self.assertEqual(sheet_tells(sheet), told)

    def test_any_sheets(self):
        for seed in range(300):
            sheet = any_sheet(random.Random(seed))
            expected = [(line.name, told_needs(line)) for line in sheet.inputs + sheet.lines]
            self.assertEqual(list(needs_of(sheet).items()), expected)
