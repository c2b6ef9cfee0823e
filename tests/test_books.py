import unittest

from runrows.errors import NoSheet
from runrows.parts import Given, Named
from runrows.sheets import Book, Input, Row, Sheet, Use
from tests.helper import book_tells, letters, refused

ONE, YES = Given(1), Given(True)


def plain(name):
    return Sheet(name, [], ["a"], [Row("a", "number", ONE)])


def many_ended(name, inputs, outputs):
    """A sheet with so many inputs and outputs."""
    rows = [Row(one, "number", ONE) for one in letters(outputs, "r")]
    return Sheet(name, [Input(one, "number") for one in letters(inputs, "i")], letters(outputs, "r"), rows)


def user(name, module, parts=0, binds=1):
    """A sheet with a use, behind a row."""
    use = Use(letters(binds), module, [ONE] * parts)
    return Sheet(name, [], ["z"], [Row("z", "number", ONE), use])


class Books(unittest.TestCase):
    def test_fields(self):
        sheets = [plain("one"), plain("two"), user("three", "one")]
        for kind in (list, tuple):
            book = Book(kind(sheets))
            self.assertIs(type(book.sheets), tuple)
            self.assertEqual([id(sheet) for sheet in book.sheets], [id(sheet) for sheet in sheets])
            self.assertIs(book.main(), sheets[2])
            for sheet in sheets:
                self.assertIs(book.sheet_of(sheet.name), sheet)
        self.assertEqual(book_tells(Book(sheets=sheets)), book_tells(book))

    def test_what_is_handed_in_stays_and_may_change_later(self):
        sheets = [plain("one"), plain("two")]
        book = Book(sheets)
        told = book_tells(book)
        self.assertEqual([sheet.name for sheet in sheets], ["one", "two"])
        main = book.main()
        sheets.append(plain("three"))
        sheets[0] = plain("four")
        self.assertEqual(book_tells(book), told)
        self.assertIs(book.main(), main)
        self.assertEqual(book.sheet_of("one").name, "one")

    def test_none_one_six_and_seven(self):
        for many in (1, 2, 6):
            book = Book([plain(name) for name in letters(many)])
            self.assertEqual(book.main().name, letters(many)[-1])
        for many in (0, 7, 8):
            refused(self, NoSheet, Book, [plain(name) for name in letters(many)])
        refused(self, NoSheet, Book, ())

    def test_two_of_one_name(self):
        for names in (["one", "one"], ["one", "two", "one"], ["one", "two", "two"]):
            refused(self, NoSheet, Book, [plain(name) for name in names])

    def test_uses_of_what_is_not_ahead(self):
        refused(self, NoSheet, Book, [user("one", "two")])
        refused(self, NoSheet, Book, [plain("one"), user("two", "three")])
        refused(self, NoSheet, Book, [user("one", "two"), plain("two")])
        refused(self, NoSheet, Book, [plain("one"), user("two", "three"), plain("three")])
        refused(self, NoSheet, Book, [user("one", "one")])
        refused(self, NoSheet, Book, [plain("two"), user("one", "one")])
        refused(self, NoSheet, Book, [user("one", "two"), user("two", "one")])

    def test_uses_of_what_is_ahead(self):
        book = Book([plain("one"), user("two", "one"), plain("three"), user("four", "one"), user("five", "two")])
        self.assertEqual(book.sheet_of("five").lines[1].module, "two")

    def test_every_use_is_looked_at(self):
        good, bad = Use(["p"], "one", []), Use(["q"], "none", [])
        for lines in ([good, bad], [bad, good]):
            refused(self, NoSheet, Book, [plain("one"), Sheet("two", [], ["p"], lines)])
            refused(self, NoSheet, Book, [plain("one"), Sheet("two", [], ["p"], lines), plain("three")])

    def test_as_many_parts_and_binds_as_inputs_and_outputs(self):
        for inputs, outputs in ((0, 1), (1, 1), (2, 3), (3, 2), (8, 8)):
            sheet = many_ended("one", inputs, outputs)
            book = Book([sheet, user("two", "one", inputs, outputs)])
            self.assertEqual(len(book.main().lines[1].parts), inputs)
            for parts in (0, 1, 2, 3, 4, 7, 8, 9):
                for binds in (1, 2, 3, 4, 7, 8):
                    if (parts, binds) != (inputs, outputs):
                        refused(self, NoSheet, Book, [sheet, user("two", "one", parts, binds)])

    def put_in_place(self, inputs, outputs, lines):
        """The book of a module with these, and of one that puts it in place."""
        plain_one = Sheet("one", [], ["k"], [Row("k", "number", ONE)])
        module = Sheet("two", inputs, outputs, lines)
        return [plain_one, module, user("three", "two", len(inputs), len(outputs))]

    def test_modules_with_an_on_within_may_be_put_in_place(self):
        lines = [Row("a", "number", ONE), Row("b", "number", ONE, "c"), Row("c", "truth", YES),
                 Use(["d"], "one", [], "c"), Use(["e"], "one", [])]
        sheets = self.put_in_place([Input("x", "truth")], ["a", "c", "e", "x"], lines)
        self.assertEqual(len(Book(sheets).sheets), 3)

    def test_modules_with_an_on_at_an_input(self):
        lines = [Row("a", "number", ONE)]
        for inputs in ([Input("x", "number", "y"), Input("y", "truth")], [Input("y", "truth"), Input("x", "truth", "y")]):
            for outputs in (["a"], ["a", "x"]):
                sheets = self.put_in_place(inputs, outputs, lines)
                refused(self, NoSheet, Book, sheets)
                self.assertEqual(len(Book(sheets[:2]).sheets), 2)

    def test_modules_with_an_on_at_an_output(self):
        rows = [Row("a", "number", ONE), Row("b", "number", ONE, "c"), Row("c", "truth", YES)]
        uses = [Row("a", "number", ONE), Use(["b"], "one", [], "c"), Row("c", "truth", YES)]
        for lines in (rows, uses):
            for outputs in (["b"], ["a", "b"], ["b", "a"]):
                sheets = self.put_in_place([], outputs, lines)
                refused(self, NoSheet, Book, sheets)
                self.assertEqual(len(Book(sheets[:2]).sheets), 2)
            self.assertEqual(len(Book(self.put_in_place([], ["a"], lines)).sheets), 3)

    def test_a_use_may_have_an_on_itself(self):
        lines = [Row("c", "truth", YES), Use(["p"], "one", [], "c"), Row("q", "number", Named("p"), "c")]
        self.assertEqual(len(Book([plain("one"), Sheet("two", [], ["q"], lines)]).sheets), 2)
