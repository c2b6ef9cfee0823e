import itertools
import unittest

from runrows.boxes import crowd
from runrows.errors import NoBeat, NoKind, NoSheet, Ring
from runrows.machines import made
from runrows.moves import moves_of
from runrows.parts import Given, Named, Pair, Turned
from runrows.plain import need_step, plain
from runrows.sheets import Input, Row, Sheet, Use
from runrows.timed import Before, Held, When
from tests.helper import refused

INPUTS = (Input("c", "truth"), Input("n", "number"), Input("m", "number", "c"))
C, N, M = Named("c"), Named("n"), Named("m")
# Lines of a sheet by what is wrong with them, in the order in which it is refused.
USE = Use(["p"], "other", [N])
KINDS = Row("k", "truth", Turned(N))
BEATS = Row("b", "number", Pair("+", N, M))
RINGS = Row("r", "number", Pair("+", Given(1), Named("r")))
GOOD = Row("g", "number", N)
WRONG = ((USE, NoSheet), (KINDS, NoKind), (BEATS, NoBeat), (RINGS, Ring))
# Each asks something of a sheet; what else is handed in is wrong, too, where it can be.
ASKS = (
    lambda sheet: plain(sheet, []),
    lambda sheet: plain(sheet, [(True, 1, 1)]),
    lambda sheet: plain(sheet, [()], ["none"]),
    lambda sheet: plain(sheet, [(None,)], []),
    lambda sheet: plain(sheet, [], sheet.names()),
    lambda sheet: need_step(sheet, (True, 1, 1)),
    lambda sheet: need_step(sheet, ()),
    lambda sheet: need_step(sheet, [None, None]),
    moves_of, crowd, made,
)


def sheet_of(*lines):
    return Sheet("main", INPUTS, ["c"], lines)


class LetBy(unittest.TestCase):
    def refusals(self, sheet, error):
        return [refused(self, error, ask, sheet) for ask in ASKS]

    def test_let_by(self):
        sheet = sheet_of(GOOD)
        self.assertEqual(plain(sheet, [(False, 4, 5)]), [{"c": False, "n": 4, "g": 4}])
        self.assertIsNone(need_step(sheet, (False, 4, 5)))
        for ask in (moves_of, crowd, made):
            ask(sheet)

    def test_each_by_itself(self):
        for line, error in WRONG:
            for lines in ([line], [GOOD, line], [line, GOOD]):
                self.refusals(sheet_of(*lines), error)

    def test_the_first_of_several(self):
        for many in (2, 3, 4):
            for some in itertools.permutations(WRONG, many):
                first = min(some, key=WRONG.index)
                self.refusals(sheet_of(*[line for line, error in some]), first[1])
                self.refusals(sheet_of(GOOD, *[line for line, error in some]), first[1])

    def test_what_the_refusals_tell(self):
        for fault in self.refusals(sheet_of(GOOD, BEATS, KINDS), NoKind):
            self.assertEqual((fault.row, fault.place), ("k", ()))
        for fault in self.refusals(sheet_of(Row("k", "truth", Pair("=", N, Turned(N)))), NoKind):
            self.assertEqual((fault.row, fault.place), ("k", (1,)))
        for fault in self.refusals(sheet_of(Row("e", "truth", N), KINDS), NoKind):
            self.assertEqual((fault.row, fault.place), ("e", ()))
        for fault in self.refusals(sheet_of(RINGS, GOOD, BEATS), NoBeat):
            self.assertEqual((fault.row, fault.place, fault.one, fault.other), ("b", (), (), ("c",)))
        for fault in self.refusals(sheet_of(Row("b", "number", When(N, "c"))), NoBeat):
            self.assertEqual((fault.row, fault.place, fault.one, fault.other), ("b", (), ("c",), ()))
        for fault in self.refusals(sheet_of(GOOD, RINGS), Ring):
            self.assertEqual(fault.ring, (("r", (1,)),))

    def test_kinds_of_firsts_and_rows(self):
        for part in (Before(N, True), Held(M, "c", False), Before(Held(M, "c", True), 3)):
            self.refusals(sheet_of(Row("k", "number", part)), NoKind)
        self.refusals(sheet_of(Row("k", "truth", N)), NoKind)
        self.refusals(sheet_of(Row("k", "number", C)), NoKind)

    def test_beats_of_parts_and_rows(self):
        for part, on in ((M, None), (N, "c"), (Before(M), None), (Held(N, "c"), None), (When(M, "c"), "c")):
            self.refusals(sheet_of(Row("b", "number", part, on)), NoBeat)

    def test_rings_through_ons_and_of_several(self):
        through = [Row("a", "truth", Named("b")), Row("b", "truth", Named("d")), Row("d", "truth", Turned(Named("a")))]
        for fault in self.refusals(sheet_of(GOOD, *through), Ring):
            self.assertEqual(sorted(fault.ring), [("a", ()), ("b", ()), ("d", (0,))])
        on = Sheet("main", [Input("x", "truth", "a")], ["a"], [Row("a", "truth", Held(Named("x"), "a"))])
        self.refusals(on, Ring)
