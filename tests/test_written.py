import unittest

from runrows.parts import Choice, Given, Named, Pair, Turned
from runrows.sheets import Book, Input, Row, Sheet, Use
from runrows.texts import read, written
from runrows.timed import Before, Held, Led, When
from tests.forms import first_fault
from tests.helper import all_kinds, book_tells, deep, large, letters

FULL = """\
module plain
out a
row a number = -128
end
module adds
in one number
in other number
out sum
out less
row sum number = (one + other)
row less truth = (one < other)
end
module main
in go truth
in many -5..127 on go
in few 0..0
in any number on go
in far -128..-100
out total
out go
out p.in
row total number = (0 then ((before total 3) + few))
row odd truth on go = (if (many <= any) yes (not no))
use k = plain
use p.in p.less = adds total (few * -1)
use q r on go = adds many (any - 1)
use x on odd = plain
row late number = (((many + q) held go -1) + (before (few when go) -2))
row none truth = (odd held go)
end
"""


def full_book():
    plain = Sheet("plain", [], ["a"], [Row("a", "number", Given(-128))])
    one, other = Named("one"), Named("other")
    adds = Sheet("adds", [Input("one", "number"), Input("other", "number")], ["sum", "less"], [
        Row("sum", "number", Pair("+", one, other)), Row("less", "truth", Pair("<", one, other)),
    ])
    few, many, total = Named("few"), Named("many"), Named("total")
    inputs = [Input("go", "truth"), Input("many", (-5, 127), "go"), Input("few", (0, 0)), Input("any", "number", "go"),
              Input("far", (-128, -100))]
    lines = [
        Row("total", "number", Led(Given(0), Pair("+", Before(total, 3), few))),
        Row("odd", "truth", Choice(Pair("<=", many, Named("any")), Given(True), Turned(Given(False))), "go"),
        Use(["k"], "plain", []),
        Use(["p.in", "p.less"], "adds", [total, Pair("*", few, Given(-1))]),
        Use(["q", "r"], "adds", [many, Pair("-", Named("any"), Given(1))], "go"),
        Use(["x"], "plain", [], "odd"),
        Row("late", "number", Pair("+", Held(Pair("+", many, Named("q")), "go", -1), Before(When(few, "go"), -2))),
        Row("none", "truth", Held(Named("odd"), "go")),
    ]
    return Book([plain, adds, Sheet("main", inputs, ["total", "go", "p.in"], lines)])


def row_book(part):
    """A book with this part in a row, and twice in a use; c is a row of truths."""
    one = Sheet("one", [Input("x", "number"), Input("y", "truth")], ["x"], [Row("z", "number", Given(1))])
    lines = [Row("a", "truth", part), Row("c", "truth", Given(False)), Use(["d"], "one", [part, part], "c")]
    return Book([one, Sheet("two", [], ["a"], lines)])


class Written(unittest.TestCase):
    def test_the_smallest(self):
        book = Book([Sheet("one", [], ["a"], [Row("a", "truth", Given(True))])])
        self.assertEqual(written(book), "module one\nout a\nrow a truth = yes\nend\n")

    def test_every_kind_of_row_sign_by_sign(self):
        self.assertEqual(written(full_book()), FULL)

    def test_inputs(self):
        inputs = [Input("a", "truth"), Input("b", "number"), Input("c", (-5, 3)), Input("d.in", (0, 127), "a"),
                  Input("e", "truth", "a"), Input("f", "number", "e")]
        book = Book([Sheet("one", inputs, ["z"], [Row("z", "truth", Given(True))])])
        self.assertEqual(written(book).split("\n")[1:7], [
            "in a truth", "in b number", "in c -5..3", "in d.in 0..127 on a", "in e truth on a", "in f number on e",
        ])

    def test_the_same_text_each_time(self):
        book = full_book()
        told = book_tells(book)
        self.assertEqual(written(book), written(book))
        self.assertEqual(book_tells(book), told)

    def test_what_is_handed_in_and_changed_later(self):
        binds, parts = ["q"], [Given(1), Given(True)]
        book = row_book(Given(3))
        use = Use(binds, "one", parts)
        binds.append("r")
        parts.append(Given(2))
        sheet = Sheet("two", [], ["q"], [use])
        self.assertEqual(written(Book([book.sheets[0], sheet])).split("\n")[6:9], ["module two", "out q", "use q = one 1 yes"])


class ReadAgain(unittest.TestCase):
    def check(self, book):
        text = written(book)
        self.assertIsNone(first_fault(text))
        again = read(text)
        self.assertIsInstance(again, Book)
        self.assertEqual(book_tells(again), book_tells(book))
        self.assertEqual(written(again), text)

    def test_every_kind_of_row(self):
        self.check(full_book())
        self.assertEqual(book_tells(read(FULL)), book_tells(full_book()))

    def test_every_kind_of_part(self):
        for part in all_kinds(Before(Named("a"), 3)) + [deep(10), large(40)]:
            self.check(row_book(part))
            if part.size() < 10:
                for whole in all_kinds(part):
                    self.check(row_book(whole))

    def test_as_many_as_there_may_be(self):
        names = letters(80)
        inputs = [Input(name, (-128, 127)) for name in letters(8, "xb")]
        rows = [Row(name, "number", Named(names[0])) for name in names]
        sheets = [Sheet(name, inputs, names[:8], rows) for name in letters(5, "x")]
        parts = [Given(at) for at in range(8)]
        uses = [Use([f"u.{name}.{one}" for one in names[:8]], sheets[-1].name, parts) for name in names]
        main = Sheet("main", [], [f"u.{names[79]}.{names[7]}"], uses)
        self.check(Book(sheets + [main]))

    def test_names_of_kept_words(self):
        lines = [Row("in.out", "truth", Named("end.end")), Row("end.end", "truth", Given(True), "on.on"),
                 Row("on.on", "truth", Given(True)), Row("a.in", "truth", When(Named("on.on"), "on.on"))]
        self.check(Book([Sheet("ins", [], ["in.out", "on.on"], lines)]))

    def test_what_is_read_is_of_its_kinds(self):
        main = read(FULL).main()
        self.assertEqual([type(line) for line in main.inputs], [Input] * 5)
        self.assertEqual([type(line) for line in main.lines], [Row, Row, Use, Use, Use, Use, Row, Row])
        self.assertEqual([line.kind for line in main.inputs], ["truth", (-5, 127), (0, 0), "number", (-128, -100)])
        self.assertEqual([line.on for line in main.inputs], [None, "go", None, "go", None])
        self.assertEqual(main.outputs, ("total", "go", "p.in"))
        self.assertEqual(main.line("q").binds, ("q", "r"))

    def test_each_reading_is_by_itself(self):
        one, other = read(FULL), read(FULL)
        self.assertIsNot(one, other)
        one.main().names().clear()
        self.assertEqual(book_tells(one), book_tells(other))
