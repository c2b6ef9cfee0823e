import unittest

from runrows.errors import NoSheet, TooMany
from runrows.parts import Choice, Given, Named, Pair, Turned
from runrows.placing import placed
from runrows.sheets import Book, Input, Row, Sheet, Use
from runrows.texts import read, written
from runrows.timed import Before, Held, Led, When
from tests.expansion import expanded
from tests.helper import book_tells, letters, refused, sheet_tells
from tests.test_written import FULL

ONE, YES = Given(1), Given(True)

ADDS = """\
module adds
in one number
in some 0..9
in go truth
out sum
out some
out go
out odd
row odd truth = ((one = some) or (before go))
row sum number = ((one + some) then ((before sum 3) + (k held odd -1)))
row k number on odd = ((one when odd) * 2)
row deep truth on odd = ((before (k < 3)) and (go when odd))
row low number on deep = (k when deep)
end
"""
PLAIN_USE = ADDS + """\
module main
in a number
in c truth on d
in d truth
out s
out t
row before.a number = (before a)
use s t u v = adds (a - 1) before.a (not d)
row t.x truth = (u = v)
end
"""
PLAIN_PLACED = """\
module main
in a number
in c truth on d
in d truth
out s
out t
row before.a number = (before a)
row s.one number = (a - 1)
row s.some number = before.a
row s.go truth = (not d)
row s.odd truth = ((s.one = s.some) or (before s.go))
row s.sum number = ((s.one + s.some) then ((before s.sum 3) + (s.k held s.odd -1)))
row s.k number on s.odd = ((s.one when s.odd) * 2)
row s.deep truth on s.odd = ((before (s.k < 3)) and (s.go when s.odd))
row s.low number on s.deep = (s.k when s.deep)
row s number = s.sum
row t number = s.some
row u truth = s.go
row v truth = s.odd
row t.x truth = (u = v)
end
"""
USE_WITH_ON = ADDS + """\
module main
in a number
in c truth
out a
use p.in q r s on c = adds 3 (a when c) yes
end
"""
PLACED_WITH_ON = """\
module main
in a number
in c truth
out a
row p.in.one number on c = 3
row p.in.some number on c = (a when c)
row p.in.go truth on c = yes
row p.in.odd truth on c = ((p.in.one = p.in.some) or (before p.in.go))
row p.in.sum number on c = ((p.in.one + p.in.some) then ((before p.in.sum 3) + (p.in.k held p.in.odd -1)))
row p.in.k number on p.in.odd = ((p.in.one when p.in.odd) * 2)
row p.in.deep truth on p.in.odd = ((before (p.in.k < 3)) and (p.in.go when p.in.odd))
row p.in.low number on p.in.deep = (p.in.k when p.in.deep)
row p.in number on c = p.in.sum
row q number on c = p.in.some
row r truth on c = p.in.go
row s truth on c = p.in.odd
end
"""
SEVERAL = """\
module one
in x truth
out y
row y truth = (not x)
end
module main
in c truth
out b
use a = one b
row m truth = yes
use b = one (before a)
use d on c = one (a when c)
end
"""
SEVERAL_PLACED = """\
module main
in c truth
out b
row a.x truth = b
row a.y truth = (not a.x)
row a truth = a.y
row m truth = yes
row b.x truth = (before a)
row b.y truth = (not b.x)
row b truth = b.y
row d.x truth on c = (a when c)
row d.y truth on c = (not d.x)
row d truth on c = d.y
end
"""
THREE_DEEP = """\
module one
in x -3..3
out x
out y
row y truth = (before (w held z))
row z truth = (x < 2)
row w truth on z = ((x when z) < 0)
end
module two
in go truth
in n number
out b
out go
out d
row plain number = (0 then n)
use a c on go = one (n when go)
use b d = one (before b)
end
module three
in n number
out b
out t
out k
use t k b = two (n < 3) (n * n)
row c truth = yes
use q r s on c = two ((n when c) < 0) 3
end
module main
in in.out number
in late truth
out in.out
use z y x on late = three (in.out when late)
end
"""
THREE_PLACED = """\
module main
in in.out number
in late truth
out in.out
row z.n number on late = (in.out when late)
row z.t.go truth on late = (z.n < 3)
row z.t.n number on late = (z.n * z.n)
row z.t.plain number on late = (0 then z.t.n)
row z.t.a.x number on z.t.go = (z.t.n when z.t.go)
row z.t.a.y truth on z.t.go = (before (z.t.a.w held z.t.a.z))
row z.t.a.z truth on z.t.go = (z.t.a.x < 2)
row z.t.a.w truth on z.t.a.z = ((z.t.a.x when z.t.a.z) < 0)
row z.t.a number on z.t.go = z.t.a.x
row z.t.c truth on z.t.go = z.t.a.y
row z.t.b.x number on late = (before z.t.b)
row z.t.b.y truth on late = (before (z.t.b.w held z.t.b.z))
row z.t.b.z truth on late = (z.t.b.x < 2)
row z.t.b.w truth on z.t.b.z = ((z.t.b.x when z.t.b.z) < 0)
row z.t.b number on late = z.t.b.x
row z.t.d truth on late = z.t.b.y
row z.t number on late = z.t.b
row z.k truth on late = z.t.go
row z.b truth on late = z.t.d
row z.c truth on late = yes
row z.q.go truth on z.c = ((z.n when z.c) < 0)
row z.q.n number on z.c = 3
row z.q.plain number on z.c = (0 then z.q.n)
row z.q.a.x number on z.q.go = (z.q.n when z.q.go)
row z.q.a.y truth on z.q.go = (before (z.q.a.w held z.q.a.z))
row z.q.a.z truth on z.q.go = (z.q.a.x < 2)
row z.q.a.w truth on z.q.a.z = ((z.q.a.x when z.q.a.z) < 0)
row z.q.a number on z.q.go = z.q.a.x
row z.q.c truth on z.q.go = z.q.a.y
row z.q.b.x number on z.c = (before z.q.b)
row z.q.b.y truth on z.c = (before (z.q.b.w held z.q.b.z))
row z.q.b.z truth on z.c = (z.q.b.x < 2)
row z.q.b.w truth on z.q.b.z = ((z.q.b.x when z.q.b.z) < 0)
row z.q.b number on z.c = z.q.b.x
row z.q.d truth on z.c = z.q.b.y
row z.q number on z.c = z.q.b
row z.r truth on z.c = z.q.go
row z.s truth on z.c = z.q.d
row z truth on late = z.b
row y number on late = z.t
row x truth on late = z.k
end
"""
SAMPLES = (
    (PLAIN_USE, PLAIN_PLACED), (USE_WITH_ON, PLACED_WITH_ON), (SEVERAL, SEVERAL_PLACED), (THREE_DEEP, THREE_PLACED),
)


def text_of(sheet):
    return written(Book([sheet]))


def rows(many, ahead="r"):
    return [Row(name, "number", ONE) for name in letters(many, ahead)]


def row_and_use(many, ahead, binds, module="one", parts=(), on=None):
    """A sheet of so many rows, of one line more, a use, and of one output, the first row."""
    lines = rows(many, ahead) + [Use(binds, module, parts, on)]
    return Sheet("main", [], [lines[0].name], lines)


class Placed(unittest.TestCase):
    def test_samples(self):
        for text, expected in SAMPLES:
            book = read(text)
            sheet = placed(book)
            self.assertIs(type(sheet), Sheet)
            self.assertEqual(text_of(sheet), expected)
            self.assertEqual(expanded(text), expected)

    def test_its_argument_by_name(self):
        self.assertEqual(text_of(placed(book=read(SEVERAL))), SEVERAL_PLACED)

    def test_a_book_without_uses(self):
        for text in (ADDS, SEVERAL_PLACED, ADDS + THREE_PLACED):
            book = read(text)
            self.assertEqual(sheet_tells(placed(book)), sheet_tells(book.main()))

    def test_the_last_sheet_is_the_one(self):
        book = read(ADDS + SEVERAL.replace("main", "other") + "module last\nout a\nrow a number = 3\nend\n")
        self.assertEqual(text_of(placed(book)), "module last\nout a\nrow a number = 3\nend\n")

    def test_the_full_sample(self):
        self.assertEqual(text_of(placed(read(FULL))), expanded(FULL))

    def test_once_more_of_what_was_placed(self):
        for text, expected in SAMPLES:
            sheet = placed(read(text))
            again = placed(Book([sheet]))
            self.assertEqual(sheet_tells(again), sheet_tells(sheet))
            self.assertEqual(text_of(placed(Book([again]))), expected)

    def test_what_was_placed_is_a_module_like_others(self):
        sheet = placed(read(THREE_DEEP))
        main = Sheet("top", [], ["o"], [Use(["o"], "main", [ONE, YES])])
        refused(self, TooMany, placed, Book([sheet, main]))
        sheet = placed(read(SEVERAL))
        main = Sheet("top", [], ["o"], [Use(["o"], "main", [YES])])
        self.assertIn("row o.d.y truth on o.c = (not o.d.x)\n", text_of(placed(Book([sheet, main]))))

    def test_the_book_stays(self):
        for text, expected in SAMPLES:
            book = read(text)
            told, sheets = book_tells(book), book.sheets
            first = placed(book)
            self.assertEqual(book_tells(book), told)
            self.assertEqual([id(one) for one in book.sheets], [id(one) for one in sheets])
            self.assertEqual(sheet_tells(placed(book)), sheet_tells(first))

    def test_kinds_of_fields(self):
        for text, expected in SAMPLES:
            sheet = placed(read(text))
            for field in (sheet.inputs, sheet.outputs, sheet.lines):
                self.assertIs(type(field), tuple)
            self.assertEqual({type(line) for line in sheet.lines}, {Row})
            self.assertEqual({type(line) for line in sheet.inputs}, {Input})
            self.assertEqual(sheet.names(), [line.name for line in sheet.inputs + sheet.lines])

    def test_inputs_and_outputs_of_main_stay(self):
        inputs = [Input("a", (-3, 4), "b"), Input("b", "truth"), Input("c", "number")]
        main = Sheet("main", inputs, ["u", "a", "c"], [Use(["u"], "one", [Named("c")])])
        module = Sheet("one", [Input("x", (0, 1))], ["x"], [Row("k", "number", ONE)])
        sheet = placed(Book([module, main]))
        self.assertEqual([(line.name, line.kind, line.on) for line in sheet.inputs],
                         [("a", (-3, 4), "b"), ("b", "truth", None), ("c", "number", None)])
        self.assertEqual(sheet.outputs, ("u", "a", "c"))
        self.assertEqual(sheet.name, "main")

    def test_each_kind_of_part(self):
        x, c = Named("x"), Named("c")
        parts = (
            (x, "p.x"), (ONE, "1"), (YES, "yes"), (Turned(x), "(not p.x)"), (Choice(c, x, ONE), "(if p.c p.x 1)"),
            (Before(x), "(before p.x)"), (Before(x, -3), "(before p.x -3)"), (Led(x, c), "(p.x then p.c)"),
            (When(x, "c"), "(p.x when p.c)"), (Held(x, "c"), "(p.x held p.c)"), (Held(x, "c", False), "(p.x held p.c no)"),
            (Held(Before(When(Pair("<=", c, Named("a.in")), "x"), True), "c", 0),
             "((before ((p.c <= p.a.in) when p.x) yes) held p.c 0)"),
        )
        for part, text in parts:
            for on in (None, "x"):
                lines = [Row("k", "number", part), Row("a.in", "truth", ONE)]
                module = Sheet("one", [Input("x", "truth"), Input("c", "truth")], ["k"], lines)
                main = Sheet("main", [Input("x", "truth")], ["p"], [Use(["p"], "one", [YES, x], on)])
                row = placed(Book([module, main])).line("p.k")
                self.assertEqual((row.part.text(), row.kind, row.on), (text, "number", on))

    def test_parts_for_inputs_stay_as_they_are(self):
        part = Held(Before(When(Named("a"), "c")), "c")
        module = Sheet("one", [Input("c", "truth"), Input("a", "number")], ["k"], [Row("k", "number", ONE)])
        main = Sheet("main", [Input("a", "number"), Input("c", "truth")], ["k"], [
            Use(["k"], "one", [part, Named("k")])])
        sheet = placed(Book([module, main]))
        self.assertEqual(sheet.line("k.c").part.told(), part.told())
        self.assertEqual(sheet.line("k.a").part.told(), ("named", "k"))

    def test_kinds_of_outputs(self):
        inner = Sheet("inner", [Input("x", (0, 3)), Input("t", "truth")], ["t", "x"], [Row("k", "truth", YES)])
        outer = Sheet(
            "outer", [Input("a", "truth"), Input("b", (-1, 1)), Input("c", "number")],
            ["c", "b", "a", "e", "d", "f", "g"],
            [Use(["d", "e"], "inner", [Named("c"), Named("a")]), Row("f", "truth", YES), Row("g", "number", ONE)])
        main = Sheet("main", [], ["p"], [Use(list("pqrstuv"), "outer", [YES, ONE, ONE])])
        sheet = placed(Book([inner, outer, main]))
        kinds = [(row.name, row.kind, row.part.text()) for row in sheet.lines[-7:]]
        self.assertEqual(kinds, [
            ("p", "number", "p.c"), ("q", "number", "p.b"), ("r", "truth", "p.a"), ("s", "number", "p.e"),
            ("t", "truth", "p.d"), ("u", "truth", "p.f"), ("v", "number", "p.g")])


class Refused(unittest.TestCase):
    def lines_in_place(self, many, inputs=0, binds=1):
        """A module of so many lines, and of inputs and outputs."""
        ends = [Input(name, "number") for name in letters(inputs, "i")]
        return Sheet("one", ends, letters(binds, "r"), rows(many))

    def test_eighty_lines_and_more(self):
        for inputs, binds, many, ahead in ((0, 1, 39, 40), (0, 1, 78, 1), (8, 8, 24, 40), (3, 2, 70, 5), (0, 8, 70, 2)):
            use = (letters(binds, "u"), "one", [ONE] * inputs)
            for beyond in (-1, 0):
                main = row_and_use(ahead + beyond, "a", *use) if ahead + beyond else None
                if main:
                    sheet = placed(Book([self.lines_in_place(many, inputs, binds), main]))
                    self.assertEqual(len(sheet.lines), 80 + beyond)
            for beyond in (1, 2):
                main = row_and_use(ahead + beyond, "a", *use)
                refused(self, TooMany, placed, Book([self.lines_in_place(many, inputs, binds), main]))
                if many + beyond <= 80:
                    main = row_and_use(ahead, "a", *use)
                    refused(self, TooMany, placed, Book([self.lines_in_place(many + beyond, inputs, binds), main]))

    def test_a_main_of_eighty_rows(self):
        self.assertEqual(len(placed(Book([Sheet("main", [], ["raa"], rows(80))])).lines), 80)

    def test_lines_within_uses_within_uses(self):
        one = Sheet("one", [], ["raa"], rows(19))
        two = Sheet("two", [], ["a"], [Use(["a"], "one", []), Use(["b"], "one", [])])
        self.assertEqual(len(placed(Book([one, two])).lines), 40)
        for more, error in ((0, None), (1, TooMany)):
            lines = [Use(["a"], "two", []), Row("z", "number", ONE)] + rows(38 + more)
            book = Book([one, two, Sheet("main", [], ["a"], lines)])
            if error:
                refused(self, error, placed, book)
            else:
                self.assertEqual(len(placed(book).lines), 80)

    def test_what_is_not_used_is_not_looked_at(self):
        one = Sheet("one", [], ["raa"], rows(60))
        two = Sheet("two", [], ["a"], [Use(["a"], "one", []), Use(["b"], "one", [])])
        long = Sheet("long", [], ["a.b.c.d"], [Use(["a.b.c.d"], "one", [])])
        twice = Sheet("twice", [], ["a"], [Use(["a"], "one", []), Row("a.raa", "number", ONE)])
        main = Sheet("main", [], ["a"], [Use(["a"], "one", [])])
        self.assertEqual(len(placed(Book([one, two, long, twice, main])).lines), 61)
        refused(self, TooMany, placed, Book([one, two]))
        refused(self, TooMany, placed, Book([one, two, long]))
        refused(self, NoSheet, placed, Book([one, two, long, twice]))

    def test_very_many_lines_are_refused_soon(self):
        sheets = [Sheet("aa", [], ["qaa"], rows(80, "q"))]
        for name in ("bb", "cc", "dd", "ee", "ff"):
            uses = [Use([bind], sheets[-1].name, []) for bind in letters(80)]
            sheets.append(Sheet(name, [], ["qaa"], uses))
        refused(self, TooMany, placed, Book(sheets))

    def test_names_of_four_words_and_of_five(self):
        for head, name in (("a", "b.c.d"), ("a.b", "c.d"), ("a.b.c", "d"), ("in.in.in", "go"), ("a", "row.use.end")):
            for where in ("input", "row", "bind"):
                module = self.module_with(name, where)
                parts = [ONE] * len(module[-1].inputs)
                sheets = module + [Sheet("main", [], [head], [Use([head], "one", parts)])]
                if where != "bind":
                    self.assertIn(f"{head}.{name}", placed(Book(sheets)).names())
                longer = Sheet("main", [], [f"{head}.x"] if head.count(".") < 3 else [head], [
                    Use([f"{head}.x"], "one", parts)])
                refused(self, TooMany, placed, Book(module + [longer]))

    def module_with(self, name, where):
        """Sheets, of which the last one, called one, has an input, a row or a bind of this name."""
        if where == "input":
            return [Sheet("one", [Input(name, "number")], ["k"], [Row("k", "number", ONE)])]
        if where == "row":
            return [Sheet("one", [], ["k"], [Row("k", "number", ONE), Row(name, "number", ONE)])]
        inner = Sheet("inner", [], ["k"], [Row("k", "number", ONE)])
        return [inner, Sheet("one", [], [name], [Use([name], "inner", [])])]

    def test_binds_within_and_their_names(self):
        inner = Sheet("inner", [], ["k"], [Row("k", "number", ONE)])
        outer = Sheet("outer", [], ["a.b"], [Use(["a.b"], "inner", [])])
        main = Sheet("main", [], ["p"], [Use(["p"], "outer", [])])
        self.assertEqual(placed(Book([inner, outer, main])).names(), ["p.a.b.k", "p.a.b", "p"])
        longer = Sheet("main", [], ["p.q"], [Use(["p.q"], "outer", [])])
        refused(self, TooMany, placed, Book([inner, outer, longer]))
        second = Sheet("main", [], ["p"], [Use(["p", "a.b.c.d"], "two", [])])
        two = Sheet("two", [], ["k", "m"], [Row("k", "number", ONE), Row("m", "number", ONE)])
        self.assertEqual(placed(Book([two, second])).names(), ["p.k", "p.m", "p", "a.b.c.d"])

    def test_a_name_that_stands_twice(self):
        module = Sheet("one", [Input("x", "number")], ["k"], [Row("k", "number", ONE)])
        for name in ("p.x", "p.k"):
            for lines in ([Row(name, "number", ONE), Use(["p"], "one", [ONE])],
                          [Use(["p"], "one", [ONE]), Row(name, "number", ONE)],
                          [Use([name], "one", [ONE]), Use(["p"], "one", [ONE])],
                          [Use(["z"], "one", [ONE]), Use(["p"], "one", [Named(name)]), Row(name, "number", ONE)]):
                refused(self, NoSheet, placed, Book([module, Sheet("main", [], ["p"], lines)]))
            inputs = [Input(name, "truth")]
            refused(self, NoSheet, placed, Book([module, Sheet("main", inputs, ["p"], [Use(["p"], "one", [ONE])])]))
        other = [Row("p.y", "number", ONE), Use(["p"], "one", [ONE])]
        self.assertEqual(len(placed(Book([module, Sheet("main", [], ["p"], other)])).lines), 4)

    def test_a_name_that_stands_twice_further_in(self):
        one = Sheet("one", [], ["k"], [Row("k", "number", ONE)])
        two = Sheet("two", [], ["p"], [Use(["p"], "one", []), Row("p.k", "number", ONE)])
        three = Sheet("three", [], ["p"], [Use(["p"], "two", [])])
        refused(self, NoSheet, placed, Book([one, two]))
        refused(self, NoSheet, placed, Book([one, two, three]))
        kinds = Sheet("two", [], ["p"], [Use(["p"], "one", []), Row("p.k", "truth", YES)])
        refused(self, NoSheet, placed, Book([one, kinds, three]))

    def test_too_many_comes_ahead(self):
        module = Sheet("one", [], ["k"], [Row("k", "number", ONE)])
        twice = [Use(["p"], "one", []), Row("p.k", "number", ONE)]
        refused(self, NoSheet, placed, Book([module, Sheet("main", [], ["p"], twice + rows(77))]))
        for lines in (twice + rows(78), rows(78) + twice, rows(40) + twice + rows(38, "s")):
            refused(self, TooMany, placed, Book([module, Sheet("main", [], ["p"], lines)]))
        long = Use(["a.b.c.d"], "one", [])
        for lines in (twice + [long], [long] + twice, twice[:1] + [long] + twice[1:]):
            refused(self, TooMany, placed, Book([module, Sheet("main", [], ["p"], lines)]))
        inputs = [Input("p.k", "number")]
        refused(self, TooMany, placed, Book([module, Sheet("main", inputs, ["p"], [twice[0], long])]))

    def test_what_is_refused_changes_nothing(self):
        module = Sheet("one", [], ["k"], [Row("k", "number", ONE)])
        for lines in ([Use(["p"], "one", []), Row("p.k", "number", ONE)], [Use(["a.b.c.d"], "one", [])]):
            book = Book([module, Sheet("main", [], ["p"] if len(lines) == 2 else ["a.b.c.d"], lines)])
            told = book_tells(book)
            for again in range(2):
                with self.assertRaises((NoSheet, TooMany)):
                    placed(book)
                self.assertEqual(book_tells(book), told)
