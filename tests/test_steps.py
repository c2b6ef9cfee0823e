import itertools
import unittest

from runrows.errors import NoInput
from runrows.parts import Given, Named
from runrows.plain import need_step, plain
from runrows.sheets import Input, Row, Sheet
from runrows.machines import Running, made
from tests.helper import refused, sheet_tells

ROW = Row("z", "truth", Given(True))
# Of anything: what is no number from -128 to 127, and no truth.
NO_VALUES = (
    None, "", "1", "yes", "True", 1.0, 0.5, -129, 128, 10 ** 30, [], [1], (), (1,), {}, {1: 1}, [True], (True,), b"1",
    object(), 1j, float("nan"), len, int, bool, {1}, range(2),
)
NUMBERS = (-128, -127, -1, 0, 1, 2, 126, 127)


def sheet_of(*inputs):
    return Sheet("main", inputs, ["z"], [ROW])


class Steps(unittest.TestCase):
    def let_in(self, sheet, step):
        for handed in (list(step), tuple(step)):
            self.assertIsNone(need_step(sheet, handed))
            self.assertEqual(len(plain(sheet, [handed])), 1)
            self.assertEqual(list(Running(made(sheet)).step(handed)), ["z"])

    def kept_out(self, sheet, step):
        for handed in (list(step), tuple(step)):
            refused(self, NoInput, need_step, sheet, handed)
            refused(self, NoInput, plain, sheet, [handed])
            refused(self, NoInput, Running(made(sheet)).step, handed)

    def test_as_many_values_as_inputs(self):
        for many in range(9):
            sheet = sheet_of(*[Input("abcdefgh"[at], "truth") for at in range(many)])
            self.let_in(sheet, [True] * many)
            for other in range(11):
                if other != many:
                    self.kept_out(sheet, [True] * other)

    def test_truths(self):
        sheet = sheet_of(Input("a", "truth"))
        for value in (True, False):
            self.let_in(sheet, [value])
        for value in NUMBERS + NO_VALUES:
            self.kept_out(sheet, [value])

    def test_numbers(self):
        sheet = sheet_of(Input("a", "number"))
        for value in NUMBERS:
            self.let_in(sheet, [value])
        for value in (True, False) + NO_VALUES:
            self.kept_out(sheet, [value])

    def test_stretches(self):
        for low, high in ((0, 9), (-128, 127), (-128, -128), (127, 127), (0, 0), (1, 1), (-5, -1), (0, 1), (5, 127)):
            sheet = sheet_of(Input("a", (low, high)))
            for value in range(-128, 128):
                if low <= value <= high:
                    self.assertIsNone(need_step(sheet, (value,)))
                else:
                    refused(self, NoInput, need_step, sheet, (value,))
            self.let_in(sheet, [low])
            self.let_in(sheet, [high])
            for value in (low - 1, high + 1, True, False) + NO_VALUES:
                self.kept_out(sheet, [value])

    def test_each_input_by_its_own_kind(self):
        sheet = sheet_of(Input("a", "truth"), Input("b", "number"), Input("c", (2, 4)))
        good = (True, 100, 3)
        self.let_in(sheet, good)
        for step in itertools.permutations(good):
            if step != good:
                self.kept_out(sheet, step)
        for at in range(3):
            for value in NO_VALUES:
                self.kept_out(sheet, good[:at] + (value,) + good[at + 1:])
        for value in (1, 5, 100):
            self.kept_out(sheet, (True, 100, value))

    def test_an_input_that_does_not_come(self):
        sheet = sheet_of(Input("a", "truth"), Input("b", (0, 3), "a"), Input("c", "truth", "a"), Input("d", "truth", "c"))
        for step in ((False, 3, True, True), (False, 0, False, False), (True, 1, False, True)):
            self.let_in(sheet, step)
        for step in ((False, 4, True, True), (False, None, True, True), (False, True, True, True), (False, 1, 0, True),
                     (False, 1, False, 1), (True, 1, False, None), (False, 1, False), (False,)):
            self.kept_out(sheet, step)

    def test_of_a_row_that_never_comes(self):
        sheet = Sheet("main", [Input("b", "number", "c")], ["z"], [ROW, Row("c", "truth", Given(False))])
        self.let_in(sheet, [5])
        for value in (True, None, 128):
            self.kept_out(sheet, [value])

    def test_more_in_it_than_is_due(self):
        sheet = sheet_of(Input("a", "truth"))
        for step in ([True, None], [True, [True]], [[True]], [(True,)], [[], True], [None, None], [True, True]):
            self.kept_out(sheet, step)
        self.kept_out(sheet_of(), [None])
        self.kept_out(sheet_of(), [[]])

    def test_what_is_handed_in_stays(self):
        sheet = Sheet("main", [Input("a", "number")], ["b"], [Row("b", "number", Named("a"))])
        told = sheet_tells(sheet)
        for step in ([1], [None], [1, 2], []):
            handed = list(step)
            try:
                need_step(sheet=sheet, step=handed)
            except NoInput:
                pass
            self.assertEqual(handed, step)
        self.assertEqual(sheet_tells(sheet), told)
