import itertools
import random
import unittest

from runrows.errors import NoInput, NoSheet
from runrows.orders import is_order, order
from runrows.parts import Choice, Given, Named, Pair, Turned
from runrows.plain import plain
from runrows.sheets import Input, Row, Sheet
from runrows.texts import read
from runrows.timed import Before, Held, Led, When
from tests.helper import SIGNS, exact, refused, sheet_tells
from tests.let_by import any_let_by, any_steps
from tests.streams import Streams

C, D, N, M, T = Named("c"), Named("d"), Named("n"), Named("m"), Named("t")


def sheet_by(text):
    return read(f"module main\n{text}end\n").main()


def of_part(kind, part, on=None):
    """The row k of a part, with inputs n and m of numbers, t and c of truths, and p, q on c."""
    inputs = [Input("n", "number"), Input("m", "number"), Input("t", "truth"), Input("c", "truth"),
              Input("p", "number", "c"), Input("q", "truth", "c")]
    return Sheet("main", inputs, ["k"], [Row("k", kind, part, on)])


class Plain(unittest.TestCase):
    def column(self, sheet, name, steps):
        """What a name comes to at each step; None where it does not come."""
        told = plain(sheet, steps)
        self.assertIs(type(told), list)
        self.assertEqual(len(told), len(steps))
        for now in told:
            self.assertIs(type(now), dict)
            self.assertEqual(list(now), [one for one in sheet.names() if one in now])
        return [now.get(name) for now in told]

    def check(self, sheet, name, steps, expected):
        self.assertEqual(exact(self.column(sheet, name, steps)), exact(expected))

    def check_part(self, kind, part, steps, expected, on=None):
        """steps are of n, m, t, c."""
        self.check(of_part(kind, part, on), "k", [tuple(step) + (step[0], step[2]) for step in steps], expected)

    def test_without_steps(self):
        for sheet in (sheet_by("out a\nrow a truth = yes\n"), of_part("number", N)):
            for steps in ([], ()):
                self.assertEqual(plain(sheet, steps), [])

    def test_without_inputs(self):
        sheet = sheet_by("out a\nrow a number = ((before a 5) + 1)\nrow b truth = (not (before b))\n")
        expected = [{"a": 6, "b": True}, {"a": 7, "b": False}, {"a": 8, "b": True}]
        for steps in ([(), (), ()], [[], [], []], ((), [], ())):
            self.assertEqual(exact(plain(sheet, steps)), exact(expected))

    def test_given_and_named(self):
        self.check_part("number", Given(7), [(1, 2, True, True)] * 2, [7, 7])
        self.check_part("truth", Given(False), [(1, 2, True, True)], [False])
        self.check_part("number", N, [(1, 2, True, True), (-128, 2, True, True)], [1, -128])

    def test_turned_and_choice(self):
        steps = [(1, 2, True, True), (1, 2, False, True), (5, -5, True, False)]
        self.check_part("truth", Turned(T), steps, [False, True, False])
        self.check_part("number", Choice(T, N, M), steps, [1, 2, 5])

    def test_each_sign(self):
        found = {"+": [3, -128, 2], "-": [-1, 126, 0], "*": [2, 127, 1], "=": [False, False, True],
                 "<": [True, False, False], "<=": [True, False, True]}
        steps = [(1, 2, True, True), (127, 1, True, False), (1, 1, False, False)]
        for sign in SIGNS[:6]:
            self.check_part("number" if sign in "+-*" else "truth", Pair(sign, N, M), steps, found[sign])
        self.check_part("truth", Pair("and", T, C), steps, [True, False, False])
        self.check_part("truth", Pair("or", T, C), steps, [True, True, False])
        self.check_part("truth", Pair("=", T, C), steps, [True, False, True])

    def test_before(self):
        steps = [(4, 0, True, True), (5, 0, False, True), (6, 0, True, True)]
        for part, expected in (
            (Before(N), [0, 4, 5]), (Before(N, 0), [0, 4, 5]), (Before(N, -9), [-9, 4, 5]),
            (Before(Before(N)), [0, 0, 4]), (Before(Before(N, 1), 2), [2, 1, 4]), (Before(Given(8)), [0, 8, 8]),
            (Before(Pair("+", N, Before(N))), [0, 4, 9]),
        ):
            self.check_part("number", part, steps, expected)
        for part, expected in ((Before(T), [False, True, False]), (Before(T, True), [True, True, False])):
            self.check_part("truth", part, steps, expected)

    def test_led(self):
        steps = [(4, 40, True, True), (5, 50, False, True), (6, 60, True, True)]
        for part, expected in (
            (Led(N, M), [4, 50, 60]), (Led(Given(1), Led(Given(2), Given(3))), [1, 3, 3]),
            (Led(Given(1), Before(Led(Given(2), Given(3)))), [1, 2, 3]), (Led(Before(N, 7), N), [7, 5, 6]),
        ):
            self.check_part("number", part, steps, expected)

    def test_when(self):
        steps = [(4, 0, True, True), (5, 0, False, False), (6, 0, True, True), (7, 0, True, True)]
        for part, expected in (
            (When(N, "c"), [4, None, 6, 7]), (Before(When(N, "c"), 1), [1, None, 4, 6]),
            # Within, what is ahead is that of all steps, not of those alone at which c is True.
            (When(Before(N), "c"), [0, None, 5, 6]), (When(Led(Given(1), Given(2)), "c"), [1, None, 2, 2]),
            (Led(When(N, "c"), Given(2)), [4, None, 2, 2]), (Named("p"), [4, None, 6, 7]), (Given(3), [3, None, 3, 3]),
            (Before(Named("p")), [0, None, 4, 6]), (Before(Given(3)), [0, None, 3, 3]),
        ):
            self.check_part("number", part, steps, expected, "c")

    def test_led_within_when_is_done_ahead(self):
        steps = [(4, 0, True, False), (5, 0, False, True)]
        self.check_part("number", When(Led(Given(1), Given(2)), "c"), steps, [None, 2], "c")
        self.check_part("number", Led(When(Given(1), "c"), Given(2)), steps, [None, 1], "c")
        self.check_part("number", Led(Given(1), Given(2)), steps, [None, 1], "c")

    def test_held(self):
        steps = [(3, 0, True, False), (4, 0, True, True), (5, 0, False, False), (6, 0, True, True), (7, 0, True, False)]
        for part, expected in (
            (Held(Named("p"), "c"), [0, 4, 4, 6, 6]), (Held(Named("p"), "c", -1), [-1, 4, 4, 6, 6]),
            (Held(When(N, "c"), "c", 9), [9, 4, 4, 6, 6]), (Held(Given(2), "c"), [0, 2, 2, 2, 2]),
            (Held(Before(Named("p"), 8), "c"), [0, 8, 8, 4, 4]), (Before(Held(Named("p"), "c")), [0, 0, 4, 4, 6]),
            (Held(Led(Given(1), Given(2)), "c"), [0, 1, 1, 2, 2]), (Held(When(Before(N), "c"), "c"), [0, 3, 3, 5, 5]),
        ):
            self.check_part("number", part, steps, expected)
        self.check_part("truth", Held(Named("q"), "c", True), steps, [True, True, True, True, True])
        self.check_part("truth", Held(Turned(Named("q")), "c", True), steps, [True, False, False, False, False])

    def test_held_at_steps_at_which_its_row_does_not_come(self):
        # Both truths come at each step; the row comes with d, what it holds comes with c.
        sheet = sheet_by("in c truth\nin d truth\nin n number\nout k\n"
                         "row k number on d = (((n when c) held c -1) when d)\n"
                         "row b number on d = ((before ((n when c) held c -1) -2) when d)\n")
        steps = [(False, True, 1), (True, False, 2), (False, False, 3), (False, True, 4), (True, True, 5), (True, False, 6),
                 (False, True, 7)]
        self.check(sheet, "k", steps, [-1, None, None, 2, 5, None, 6])
        self.check(sheet, "b", steps, [-2, None, None, 2, 2, None, 6])

    def test_memories_of_a_row_that_comes_at_some_steps(self):
        sheet = sheet_by("in c truth\nin n number\nout a\n"
                         "row a number on c = ((before a) + 1)\n"
                         "row b number on c = (10 then ((before b) + 1))\n"
                         "row d truth on c = (not (before d yes))\n"
                         "row e number on d = (0 then ((before e) - 1))\n"
                         "row f number on c = (e held d 50)\n"
                         "row g number = (f held c 70)\n")
        steps = [(truth, 0) for truth in (False, True, False, False, True, True, True, False)]
        for name, expected in (
            ("a", [None, 1, None, None, 2, 3, 4, None]), ("b", [None, 10, None, None, 11, 12, 13, None]),
            ("d", [None, False, None, None, True, False, True, None]), ("e", [None, None, None, None, 0, None, -1, None]),
            ("f", [None, 50, None, None, 0, 0, -1, None]), ("g", [70, 50, 50, 50, 0, 0, -1, -1]),
        ):
            self.check(sheet, name, steps, expected)

    def test_ons_of_ons(self):
        sheet = sheet_by("in a truth\nin b truth on a\nin n -1..9 on c\nout n\n"
                         "row c truth on b = (not (before ((a when a) when b)))\nrow e number on c = (n * 2)\n")
        steps = [(True, True, 4), (True, True, 5), (True, False, 6), (False, True, 7), (False, False, 8), (True, True, 9)]
        self.assertEqual(plain(sheet, steps), [
            {"a": True, "b": True, "n": 4, "c": True, "e": 8}, {"a": True, "b": True, "c": False},
            {"a": True, "b": False}, {"a": False}, {"a": False}, {"a": True, "b": True, "c": False},
        ])

    def test_an_on_that_is_true_but_does_not_come(self):
        # b is handed in as True, but does not come: so neither does k.
        sheet = sheet_by("in a truth\nin b truth on a\nout k\nrow k number on b = 3\n")
        self.assertEqual(plain(sheet, [(False, True), (True, True), (True, False)]),
                         [{"a": False}, {"a": True, "b": True, "k": 3}, {"a": True, "b": False}])

    def test_lines_in_any_order(self):
        lines = ["row a number = (n + b)\n", "row b number = ((before a) * c)\n", "row c number = (if t 2 (before n 1))\n",
                 "row d number on t = ((a - b) when t)\n"]
        steps = [(1, True), (2, False), (3, False), (4, True), (5, True)]
        found = {}
        for some in itertools.permutations(lines):
            sheet = sheet_by("in n number\nin t truth\nout a\n" + "".join(some))
            told = plain(sheet, steps)
            for now in told:
                self.assertEqual(list(now), [one for one in sheet.names() if one in now])
            found[repr([sorted(now.items()) for now in told])] = True
        self.assertEqual(len(found), 1)

    def test_names_as_the_lines_stand_not_as_they_are_worked_out(self):
        sheet = sheet_by("in x number on d\nin c truth\nout a\nrow a number = b\nrow d truth = c\nrow b number = 4\n")
        for names in (None, ["c", "d", "x", "b", "a"], ["b", "c", "a", "d", "x"]):
            told = plain(sheet, [(1, True), (2, False)], names)
            self.assertEqual([list(now) for now in told], [["x", "c", "a", "d", "b"], ["c", "a", "d", "b"]])


class Names(unittest.TestCase):
    TEXT = "in c truth\nin n number on c\nout a\nrow a number = (b + (n held c))\nrow b number = (before a)\n" \
           "row d truth on c = (n < 3)\nrow e number on d = ((n when d) * 2)\n"

    def test_each_order(self):
        sheet = sheet_by(self.TEXT)
        steps = [(True, 1), (False, 2), (True, 4), (True, -9)]
        expected, many = exact(plain(sheet, steps)), 0
        for names in itertools.permutations(sheet.names()):
            if is_order(sheet, names):
                many += 1
                for handed in (list(names), names):
                    self.assertEqual(exact(plain(sheet, steps, handed)), expected)
                    self.assertEqual(exact(plain(sheet=sheet, steps=steps, names=handed)), expected)
        self.assertGreater(many, 10)

    def test_none_of_them(self):
        sheet = sheet_by(self.TEXT)
        good = order(sheet)
        for names in ([], (), good[:-1], good + ["a"], good + ["none"], good[::-1], sheet.names(), ["none"], [""] * 7):
            # A step that is none is looked at behind the names.
            for steps in ([], [(True, 1)], [(1, True)], [()], [(True, 1), (None, None)]):
                refused(self, NoSheet, plain, sheet, steps, names)

    def test_a_step_that_is_none(self):
        sheet = sheet_by(self.TEXT)
        good = (True, 1)
        for bad in ((), (True,), (1, True), (True, 1, 1), (True, None), (False, 128), [False, "1"], (False, True)):
            for many in range(4):
                for steps in ([good] * many + [bad], [bad] + [good] * many, [good] * many + [bad, good], [bad, bad]):
                    refused(self, NoInput, plain, sheet, steps)
                    refused(self, NoInput, plain, sheet, steps, order(sheet))


class OnesOwn(unittest.TestCase):
    def test_what_is_handed_in_stays(self):
        sheet = sheet_by("in n number\nout a\nrow a number = ((before a) + n)\n")
        steps, names, told = [[1], (2,), [3]], ["n", "a"], sheet_tells(sheet)
        found = plain(sheet, steps, names)
        self.assertEqual((steps, names, sheet_tells(sheet)), ([[1], (2,), [3]], ["n", "a"], told))
        steps[0][0] = 100
        steps.append([7])
        names.reverse()
        self.assertEqual([now["a"] for now in found], [1, 3, 6])

    def test_dicts_of_ones_own(self):
        sheet = sheet_by("out a\nrow a number = 4\n")
        steps = [()] * 3
        first = plain(sheet, steps)
        first[0]["a"] = 9
        first[1].clear()
        first.pop()
        self.assertEqual(first, [{"a": 9}, {}])
        self.assertEqual(plain(sheet, steps), [{"a": 4}] * 3)
        self.assertEqual(len({id(now) for now in plain(sheet, steps)}), 3)


class AnySheets(unittest.TestCase):
    def test_against_looking_back(self):
        absent = 0
        for seed in range(400):
            chance = random.Random(seed)
            sheet = any_let_by(chance)
            steps = any_steps(chance, sheet, 10)
            told = plain(sheet, steps)
            expected = Streams(sheet, steps).values()
            self.assertEqual(exact(told), exact(expected), seed)
            self.assertEqual([list(now) for now in told], [list(now) for now in expected])
            absent += sum(len(sheet.names()) - len(now) for now in told)
        self.assertGreater(absent, 1000)

    def test_orders_by_chance(self):
        for seed in range(150):
            chance = random.Random(seed)
            sheet = any_let_by(chance)
            steps = any_steps(chance, sheet, 6)
            expected = exact(plain(sheet, steps))
            for at in range(4):
                names, left = [], sheet.names()
                while left:
                    chance.shuffle(left)
                    for name in left:
                        if set(sheet_needs(sheet, name)) <= set(names):
                            names.append(name)
                            break
                    left = [name for name in left if name not in names]
                self.assertEqual(exact(plain(sheet, steps, names)), expected)

    def test_first_steps_are_those_of_longer_runs(self):
        for seed in range(100):
            chance = random.Random(seed)
            sheet = any_let_by(chance)
            steps = any_steps(chance, sheet, 6)
            told = plain(sheet, steps)
            for many in range(6):
                self.assertEqual(exact(plain(sheet, steps[:many])), exact(told[:many]))


def sheet_needs(sheet, name):
    line = sheet.line(name)
    found = line.part.needs() if isinstance(line, Row) else []
    return found + ([line.on] if line.on else [])
