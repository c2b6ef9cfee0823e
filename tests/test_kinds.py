import unittest

from runrows.errors import NoKind, NoSheet
from runrows.kinds import filled, kinds_of
from runrows.parts import Choice, Given, Named, Pair, Turned
from runrows.sheets import Input, Row, Sheet, Use
from runrows.timed import Before, Held, Led, When
from tests.helper import all_kinds, place_in, refused, sheet_tells

ONE, YES = Given(1), Given(True)
N, M, T, U = Named("n"), Named("m"), Named("t"), Named("u")
INPUTS = (Input("n", "number"), Input("m", (-3, 3)), Input("t", "truth"), Input("u", "truth", "t"), Input("c", "truth"))
BAD = Turned(ONE)

# For each kind of part: parts that get what they want, with the kind that they tell.
FITTING = (
    (Given(0), "number"), (Given(False), "truth"), (N, "number"), (M, "number"), (T, "truth"), (Turned(T), "truth"),
    (Pair("+", N, M), "number"), (Pair("-", N, ONE), "number"), (Pair("*", ONE, M), "number"),
    (Pair("<", N, M), "truth"), (Pair("<=", N, ONE), "truth"), (Pair("and", T, U), "truth"), (Pair("or", T, YES), "truth"),
    (Pair("=", N, M), "truth"), (Pair("=", T, YES), "truth"), (Choice(T, N, M), "number"), (Choice(T, U, YES), "truth"),
    (Before(N), "number"), (Before(M, 3), "number"), (Before(T), "truth"), (Before(T, True), "truth"),
    (Led(N, ONE), "number"), (Led(T, U), "truth"), (When(N, "t"), "number"), (When(T, "u"), "truth"),
    (Held(N, "t"), "number"), (Held(N, "u", -1), "number"), (Held(T, "t"), "truth"), (Held(T, "t", False), "truth"),
)
# And parts that do not.
UNFITTING = (
    Turned(N), Turned(ONE), Pair("+", N, T), Pair("-", T, N), Pair("*", T, U), Pair("<", T, U), Pair("<=", YES, ONE),
    Pair("and", T, N), Pair("or", M, U), Pair("=", N, T), Pair("=", YES, M), Choice(N, N, M), Choice(T, N, U),
    Choice(ONE, T, T), Before(N, False), Before(T, 0), Led(N, T), Led(U, ONE), When(N, "n"), When(T, "m"), Held(N, "m"),
    Held(T, "n", True), Held(N, "t", True), Held(T, "u", 1),
)


def sheet_of(*rows):
    return Sheet("main", INPUTS, [rows[0].name], rows)


def used(*lines):
    """A sheet with a use at its end, of a module that there need not be."""
    return Sheet("main", INPUTS, ["p"], list(lines) + [Use(["p"], "other", [])])


class KindsOf(unittest.TestCase):
    def refuses(self, sheet, row, place):
        for look in (kinds_of, filled):
            error = refused(self, NoKind, look, sheet)
            self.assertEqual((error.row, error.place), (row, place))
            self.assertIs(type(error.place), tuple)

    def test_inputs_and_rows_in_order(self):
        rows = [Row("z", "truth", YES), Row("b.in", "number", ONE), Row("a", "truth", YES, "c")]
        kinds = kinds_of(sheet_of(*rows))
        self.assertIs(type(kinds), dict)
        self.assertEqual(list(kinds.items()), [
            ("n", "number"), ("m", "number"), ("t", "truth"), ("u", "truth"), ("c", "truth"), ("z", "truth"),
            ("b.in", "number"), ("a", "truth"),
        ])
        self.assertEqual(kinds_of(sheet=Sheet("main", [], ["z"], rows[:1])), {"z": "truth"})
        self.assertEqual(list(kinds_of(sheet_of(*rows[::-1])))[5:], ["a", "b.in", "z"])

    def test_inputs_of_a_stretch_are_numbers(self):
        for kind in ((0, 0), (-128, 127), (0, 1)):
            sheet = Sheet("main", [Input("x", kind)], ["k"], [Row("k", "number", Named("x"))])
            self.assertEqual(kinds_of(sheet), {"x": "number", "k": "number"})

    def test_parts_that_get_what_they_want(self):
        for part, kind in FITTING:
            other = "truth" if kind == "number" else "number"
            self.assertEqual(kinds_of(sheet_of(Row("k", kind, part)))["k"], kind, part.text())
            self.refuses(sheet_of(Row("k", other, part)), "k", ())

    def test_parts_that_do_not(self):
        for part in UNFITTING:
            for kind in ("number", "truth"):
                self.refuses(sheet_of(Row("k", kind, part)), "k", ())

    def test_deep_within(self):
        for part in UNFITTING:
            for inner in all_kinds(part):
                for whole in (inner, Turned(inner), Led(YES, Before(inner))):
                    place = (place_in(inner, part),)
                    ahead = () if whole is inner else (0,) if isinstance(whole, Turned) else (1, 0)
                    for kind in ("number", "truth"):
                        self.refuses(sheet_of(Row("k", kind, whole)), "k", ahead + place)

    def test_from_the_left(self):
        for part in UNFITTING:
            self.refuses(sheet_of(Row("k", "truth", Pair("and", Turned(BAD), part))), "k", (0, 0))
            self.refuses(sheet_of(Row("k", "truth", Pair("and", part, Turned(BAD)))), "k", (0,))
            self.refuses(sheet_of(Row("k", "truth", Choice(N, part, BAD))), "k", (1,))

    def test_the_first_of_two_rows(self):
        good = Row("g", "number", ONE)
        wrong = Row("w", "truth", Pair("+", N, M))
        inner = Row("i", "truth", Pair("and", YES, BAD))
        for rows, row, place in (
            ([wrong, inner], "w", ()), ([inner, wrong], "i", (1,)), ([good, wrong, good, inner], "w", ()),
            ([good, inner, wrong], "i", (1,)), ([wrong, good], "w", ()), ([good, inner], "i", (1,)),
        ):
            rows = [Row(f"{one.name}.{'abcdef'[at]}", one.kind, one.part) for at, one in enumerate(rows)]
            names = [one.name for one in rows if one.name.startswith(row)]
            self.refuses(sheet_of(*rows), names[0], place)

    def test_rows_told_later_and_by_themselves(self):
        rows = [Row("a", "number", Named("b")), Row("b", "number", Pair("+", Before(Named("a")), Named("b")))]
        self.assertEqual(kinds_of(Sheet("main", [], ["a"], rows)), {"a": "number", "b": "number"})
        rows[1] = Row("b", "truth", Before(Named("b")))
        self.refuses(Sheet("main", [], ["a"], rows), "a", ())

    def test_the_kind_of_a_row_counts_not_that_of_its_part(self):
        # The part of the later row is at fault; what the first one sees of it is the kind that stands there.
        rows = [Row("a", "truth", Turned(Named("b"))), Row("b", "truth", ONE)]
        self.refuses(Sheet("main", [], ["a"], rows), "b", ())

    def test_beats_and_rings_are_not_looked_at(self):
        rows = [Row("a", "truth", Pair("and", U, Named("a"))), Row("b", "truth", When(U, "t"), "a")]
        self.assertEqual(kinds_of(sheet_of(*rows))["b"], "truth")

    def test_a_dict_of_ones_own(self):
        sheet = sheet_of(Row("k", "number", N))
        kinds = kinds_of(sheet)
        told = dict(kinds)
        kinds["n"] = "truth"
        kinds.clear()
        self.assertEqual(kinds_of(sheet), told)
        self.assertIsNot(kinds_of(sheet), kinds_of(sheet))
        self.assertEqual(sheet.names(), list(told))

    def test_a_sheet_with_a_use(self):
        for lines in ([], [Row("k", "number", N)], [Row("k", "number", T)], [Row("k", "number", BAD)]):
            for look in (kinds_of, filled):
                refused(self, NoSheet, look, used(*lines))
                refused(self, NoSheet, look, Sheet("main", INPUTS, ["p"], [Use(["p"], "other", [BAD])] + lines))

    def test_the_sheet_stays(self):
        for part, kind in FITTING:
            sheet = sheet_of(Row("k", kind, part))
            told = sheet_tells(sheet)
            kinds_of(sheet)
            self.assertEqual(sheet_tells(sheet), told)
