import unittest

from runrows.kinds import filled
from runrows.parts import Choice, Given, Named, Pair, Turned
from runrows.sheets import Book, Input, Row, Sheet
from runrows.texts import read, written
from runrows.timed import Before, Held, Led, When
from tests.helper import exact, sheet_tells

ONE, YES = Given(1), Given(True)
N, M, T = Named("n"), Named("m"), Named("t")
INPUTS = (Input("n", "number"), Input("m", (0, 3)), Input("t", "truth"), Input("c", "truth"))

PARTS = (
    ("number", Before(N), "(before n 0)"), ("number", Before(M), "(before m 0)"), ("truth", Before(T), "(before t no)"),
    ("number", Held(N, "c"), "(n held c 0)"), ("truth", Held(T, "c"), "(t held c no)"),
    ("number", Before(ONE), "(before 1 0)"), ("truth", Before(YES), "(before yes no)"),
    ("truth", Before(Pair("<", N, M)), "(before (n < m) no)"), ("number", Before(Pair("+", N, M)), "(before (n + m) 0)"),
    ("truth", Held(Pair("=", N, M), "t"), "((n = m) held t no)"),
    ("number", Before(Choice(T, N, M)), "(before (if t n m) 0)"), ("truth", Before(Choice(T, T, T)), "(before (if t t t) no)"),
    ("truth", Before(Turned(T)), "(before (not t) no)"), ("number", Before(Led(N, M)), "(before (n then m) 0)"),
    ("truth", Before(When(T, "c")), "(before (t when c) no)"), ("number", Held(When(N, "c"), "c"), "((n when c) held c 0)"),
    ("number", Before(Before(N)), "(before (before n 0) 0)"), ("truth", Before(Before(T)), "(before (before t no) no)"),
    ("number", Before(Held(N, "c")), "(before (n held c 0) 0)"), ("truth", Held(Before(T), "c"), "((before t no) held c no)"),
    ("number", Held(Held(N, "c"), "t"), "((n held c 0) held t 0)"),
    ("number", Before(Before(N, 3)), "(before (before n 3) 0)"), ("number", Before(Before(N), 3), "(before (before n 0) 3)"),
    ("truth", Held(Before(T, True), "c"), "((before t yes) held c no)"),
    ("truth", Before(Held(T, "c"), True), "(before (t held c no) yes)"),
    ("truth", Before(Pair("<", Before(N), Held(M, "c"))), "(before ((before n 0) < (m held c 0)) no)"),
    ("number", Pair("+", Before(N), Choice(Before(T), Held(N, "t"), Before(N, 5))),
     "((before n 0) + (if (before t no) (n held t 0) (before n 5)))"),
    ("number", Led(Before(N), Before(When(Held(N, "c"), "c"))), "((before n 0) then (before ((n held c 0) when c) 0))"),
)
TOLD = (
    ("number", Before(N, 0)), ("number", Before(N, -128)), ("truth", Before(T, False)), ("truth", Before(T, True)),
    ("number", Held(N, "c", 0)), ("number", Held(M, "c", 127)), ("truth", Held(T, "c", False)), ("truth", Held(T, "c", True)),
    ("number", ONE), ("truth", T), ("truth", Turned(YES)), ("number", Led(N, M)), ("number", When(N, "c")),
)


def sheet_of(*rows):
    return Sheet("main", INPUTS, [rows[0].name], rows)


class Filled(unittest.TestCase):
    def test_each_first_that_is_not_told(self):
        for kind, part, text in PARTS:
            for on in (None, "c"):
                row = filled(sheet_of(Row("k", kind, part, on))).line("k")
                self.assertEqual((row.name, row.kind, row.part.text(), row.on), ("k", kind, text, on))

    def test_noughts_of_their_kinds(self):
        first = filled(sheet_of(Row("k", "number", Before(N)))).line("k").part.first
        self.assertEqual(exact(first), exact(0))
        first = filled(sheet_of(Row("k", "truth", Held(T, "c")))).line("k").part.first
        self.assertEqual(exact(first), exact(False))

    def test_what_is_told_stays_told(self):
        for kind, part in TOLD:
            sheet = filled(sheet_of(Row("k", kind, part)))
            self.assertEqual(exact(sheet.line("k").part.told()), exact(part.told()))
        for kind, part, text in PARTS:
            once = filled(sheet_of(Row("k", kind, part)))
            self.assertEqual(exact(sheet_tells(filled(once))), exact(sheet_tells(once)))

    def test_all_rows_and_nothing_else(self):
        text = """\
module main
in n -3..3 on t
in t truth
out b
out n
row a number on t = (before (n + (before a)))
row b truth = ((a held t) < 3)
row c truth = (before (not c))
row d number on t = 5
end
"""
        expected = text.replace("(before a)))", "(before a 0)) 0)").replace("held t)", "held t 0)").replace(
            "(not c))", "(not c) no)")
        sheet = filled(read(text).main())
        self.assertIs(type(sheet), Sheet)
        self.assertEqual(written(Book([sheet])), expected)

    def test_a_row_of_another_row(self):
        rows = [Row("a", "number", Before(Named("b"))), Row("b", "number", Held(Named("a"), "t"))]
        sheet = filled(sheet=Sheet("main", INPUTS, ["a"], rows))
        self.assertEqual([row.part.text() for row in sheet.lines], ["(before b 0)", "(a held t 0)"])

    def test_the_sheet_stays(self):
        for kind, part, text in PARTS:
            sheet = sheet_of(Row("k", kind, part))
            told, lines = sheet_tells(sheet), sheet.lines
            filled(sheet)
            self.assertEqual(sheet_tells(sheet), told)
            self.assertIs(sheet.lines[0], lines[0])
            self.assertEqual(part.text(), lines[0].part.text())

    def test_the_largest_and_deepest_parts(self):
        part = N
        for at in range(9):
            part = Before(part)
        row = filled(sheet_of(Row("k", "number", part))).line("k")
        self.assertEqual(row.part.depth(), 10)
        self.assertEqual(row.part.text().count(" 0)"), 9)
