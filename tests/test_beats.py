import unittest

from runrows.beats import beats_of, parting
from runrows.errors import NoBeat, NoSheet
from runrows.parts import Choice, Given, Named, Pair, Turned
from runrows.sheets import Input, Row, Sheet, Use
from runrows.timed import Before, Held, Led, When
from tests.helper import all_kinds, letters, place_in, refused, sheet_tells

ONE, YES = Given(1), Given(True)
# a and b come at all steps, c and d are truths that do; xc comes with c, e, too; xe with e; xd with d.
INPUTS = (
    Input("xe", "number", "e"), Input("a", "number"), Input("c", "truth"), Input("xc", (0, 3), "c"), Input("d", "truth"),
    Input("xd", "truth", "d"),
)
ROWS = (Row("e", "truth", YES, "c"), Row("b", "number", ONE), Row("ye", "number", ONE, "e"))
A, B, XC, XD, XE, YE = Named("a"), Named("b"), Named("xc"), Named("xd"), Named("xe"), Named("ye")
BEATS = {
    "xe": ("c", "e"), "a": (), "c": (), "xc": ("c",), "d": (), "xd": ("d",), "e": ("c",), "b": (), "ye": ("c", "e"),
}
BAD = Pair("+", A, XD)


def sheet_of(*rows):
    return Sheet("main", INPUTS, ["a"], ROWS + rows)


class BeatsOf(unittest.TestCase):
    def refuses(self, sheet, row, place, one, other):
        error = refused(self, NoBeat, beats_of, sheet)
        self.assertEqual((error.row, error.place, error.one, error.other), (row, place, one, other))
        for field in (error.place, error.one, error.other):
            self.assertIs(type(field), tuple)

    def test_without_on_with_one_and_with_one_of_one(self):
        beats = beats_of(sheet_of())
        self.assertIs(type(beats), dict)
        self.assertEqual(list(beats.items()), list(BEATS.items()))
        for beat in beats.values():
            self.assertIs(type(beat), tuple)
        self.assertEqual(beats_of(sheet=Sheet("main", [], ["k"], [Row("k", "truth", YES)])), {"k": ()})

    def test_a_long_way_of_ons(self):
        names = letters(80)
        rows = [Row(names[0], "truth", YES)]
        rows += [Row(name, "truth", YES, on) for on, name in zip(names, names[1:])]
        for lines in (rows, rows[::-1]):
            beats = beats_of(Sheet("main", [], names[:1], lines))
            self.assertEqual(list(beats), [row.name for row in lines])
            for at, name in enumerate(names):
                self.assertEqual(beats[name], tuple(names[:at]))

    def test_parts_of_the_rows_own_beat(self):
        fitting = (
            (None, A), (None, Pair("+", A, B)), (None, Before(A)), (None, Turned(Named("c"))), (None, Held(XC, "c")),
            (None, Held(Held(XE, "e"), "c")), (None, Choice(Named("d"), A, ONE)), (None, Led(ONE, Before(B))),
            ("c", XC), ("c", When(A, "c")), ("c", Pair("+", XC, When(B, "c"))), ("c", Named("e")), ("c", Held(XE, "e")),
            ("d", XD), ("d", When(A, "d")), ("e", XE), ("e", When(XC, "e")), ("e", When(When(A, "c"), "e")),
            ("e", Led(XE, YE)), ("e", Pair("=", When(Named("e"), "e"), XE)),
        )
        for on, part in fitting:
            beat = () if on is None else BEATS[on] + (on,)
            self.assertEqual(beats_of(sheet_of(Row("k", "number", part, on)))["k"], beat, part.text())
            for other in (None, "c", "d", "e"):
                if other != on:
                    row_beat = () if other is None else BEATS[other] + (other,)
                    self.refuses(sheet_of(Row("k", "number", part, other)), "k", (), beat, row_beat)

    def test_parts_without_names(self):
        for part in (ONE, YES, Before(ONE), Led(ONE, Turned(YES)), Choice(YES, ONE, ONE), Pair("<", ONE, ONE)):
            for on in (None, "c", "d", "e"):
                beat = () if on is None else BEATS[on] + (on,)
                self.assertEqual(beats_of(sheet_of(Row("k", "truth", part, on)))["k"], beat)

    def test_when_and_held_of_values_alone(self):
        self.assertEqual(beats_of(sheet_of(Row("k", "number", When(ONE, "e"), "e")))["k"], ("c", "e"))
        self.assertEqual(beats_of(sheet_of(Row("k", "number", Held(ONE, "e"), "c")))["k"], ("c",))
        self.refuses(sheet_of(Row("k", "number", When(ONE, "e"))), "k", (), ("c", "e"), ())
        self.refuses(sheet_of(Row("k", "number", Held(ONE, "e"))), "k", (), ("c",), ())

    def test_parts_that_are_refused_themselves(self):
        unfitting = (
            (Pair("+", A, XC), (), ("c",)), (Choice(XC, XD, A), ("c",), ("d",)), (Led(XE, XC), ("c", "e"), ("c",)),
            (When(XC, "c"), ("c",), ()), (When(A, "e"), (), ("c",)), (Held(A, "c"), (), ("c",)),
            (Held(XC, "e"), ("c",), ("c", "e")), (Held(XD, "c"), ("d",), ("c",)),
        )
        for part, one, other in unfitting:
            for on in (None, "c", "d", "e"):
                self.refuses(sheet_of(Row("k", "number", part, on)), "k", (), one, other)
                for whole in all_kinds(part):
                    self.refuses(sheet_of(Row("k", "number", whole, on)), "k", (place_in(whole, part),), one, other)
                self.refuses(sheet_of(Row("k", "number", Led(ONE, Turned(part)), on)), "k", (1, 0), one, other)

    def test_from_the_left(self):
        worse = When(XC, "c")
        self.refuses(sheet_of(Row("k", "number", Pair("+", BAD, worse))), "k", (0,), (), ("d",))
        self.refuses(sheet_of(Row("k", "number", Pair("+", Turned(worse), BAD))), "k", (0, 0), ("c",), ())
        self.refuses(sheet_of(Row("k", "number", Choice(A, XC, BAD))), "k", (2,), (), ("d",))

    def test_the_first_of_two_rows(self):
        whole = Row("w", "number", XC)
        inner = Row("i", "number", Turned(BAD))
        good = Row("g", "number", A)
        self.refuses(sheet_of(whole, inner), "w", (), ("c",), ())
        self.refuses(sheet_of(inner, whole), "i", (0,), (), ("d",))
        self.refuses(sheet_of(good, whole, inner), "w", (), ("c",), ())
        self.refuses(sheet_of(good, inner, whole), "i", (0,), (), ("d",))

    def test_kinds_are_not_looked_at(self):
        rows = [Row("k", "number", Turned(Pair("and", A, YES))), Row("m", "truth", Before(A, True)),
                Row("o", "truth", When(B, "a"), "c")]
        self.assertEqual(beats_of(sheet_of(*rows[:2]))["m"], ())
        # a is no truth, so it is the on of none; but that the part comes with a is seen.
        self.refuses(sheet_of(*rows), "o", (), ("a",), ("c",))

    def test_a_row_that_needs_itself(self):
        self.assertEqual(beats_of(sheet_of(Row("k", "number", Named("k"), "c")))["k"], ("c",))

    def test_a_dict_of_ones_own(self):
        sheet = sheet_of()
        beats = beats_of(sheet)
        beats["a"] = ("b",)
        beats.pop("c")
        self.assertEqual(beats_of(sheet), BEATS)
        self.assertIsNot(beats_of(sheet), beats_of(sheet))

    def test_a_sheet_with_a_use(self):
        for rows in ([], [Row("k", "number", XC)], [Row("k", "number", BAD)]):
            refused(self, NoSheet, beats_of, sheet_of(*rows, Use(["p"], "other", [BAD])))
            refused(self, NoSheet, beats_of, Sheet("main", INPUTS, ["a"], [Use(["p"], "o", [])] + rows + list(ROWS)))

    def test_the_sheet_stays(self):
        sheet = sheet_of(Row("k", "number", Held(XC, "c")))
        told = sheet_tells(sheet)
        beats_of(sheet)
        self.assertEqual(sheet_tells(sheet), told)


class Parting(unittest.TestCase):
    def check(self, one, other):
        truths = parting(one, other)
        self.assertIs(type(truths), dict)
        self.assertEqual(sorted(truths), sorted(set(one + other)))
        for truth in truths.values():
            self.assertIs(type(truth), bool)
        comes = [all(truths[name] for name in beat) for beat in (one, other)]
        self.assertEqual(sorted(comes), [False, True], (one, other, truths))
        return truths

    def test_one_that_goes_on_from_the_other(self):
        for one, other in ((("a",), ("a", "b")), (("a",), ("a", "b", "c")), (("a", "b"), ("a", "b", "c.in"))):
            self.check(one, other)
            self.check(other, one)

    def test_two_that_share_a_beginning(self):
        for one, other in ((("a", "b"), ("a", "c")), (("a", "b"), ("a", "c", "d")), (("a", "b", "x"), ("a", "c")),
                           (("a", "b", "x", "y"), ("a", "b", "z")), (("a",), ("b",)), (("a", "b"), ("c",))):
            self.check(one, other)
            self.check(other, one)

    def test_the_empty_one_and_another(self):
        for other in (("a",), ("a", "b"), ("a", "b", "c")):
            self.check((), other)
            self.check(other, ())

    def test_beats_of_a_sheet(self):
        beats = sorted(set(beats_of(sheet_of()).values()))
        for one in beats:
            for other in beats:
                if one != other:
                    self.check(one, other)

    def test_two_that_are_the_same(self):
        for beat in ((), ("a",), ("a", "b"), ("a.in", "b", "c")):
            error = refused(self, NoBeat, parting, beat, tuple(list(beat)))
            self.assertIs(error.row, None)
            self.assertIs(error.place, None)
            self.assertEqual((error.one, error.other), (beat, beat))

    def test_arguments_by_their_names(self):
        self.assertEqual(parting(one=(), other=("a",)), {"a": False})

    def test_a_dict_of_ones_own(self):
        truths = parting((), ("a",))
        truths["b"] = True
        self.assertEqual(parting((), ("a",)), {"a": False})
