import itertools
import random
import unittest

from runrows.errors import NoSheet, Ring
from runrows.orders import is_order, order
from runrows.parts import Choice, Given, Named, Pair, Turned
from runrows.sheets import Input, Row, Sheet, Use
from runrows.timed import Before, Held, Led, When
from tests.any_sheets import any_sheet, places_looked_at, told_needs
from tests.helper import letters, named, refused, sheet_tells

ONE, YES = Given(1), Given(True)
A, B, C, X = Named("a"), Named("b"), Named("c"), Named("x")


def row(name, part=ONE, on=None, kind="number"):
    return Row(name, kind, part, on)


def sheet_of(*lines):
    inputs = [line for line in lines if isinstance(line, Input)]
    return Sheet("main", inputs, [lines[0].name], [line for line in lines if not isinstance(line, Input)])


def first_order(sheet):
    """The order that is told, by trying: each time the first that may come; None where there is none."""
    needs = {line.name: told_needs(line) for line in sheet.inputs + sheet.lines}
    found = []
    while len(found) < len(needs):
        ready = [name for name in needs if name not in found and set(needs[name]) <= set(found)]
        if not ready:
            return None
        found.append(ready[0])
    return found


class Order(unittest.TestCase):
    def check(self, sheet, expected):
        names = order(sheet)
        self.assertIs(type(names), list)
        self.assertEqual(names, expected)
        self.assertIs(is_order(sheet, names), True)

    def test_nothing_needed(self):
        self.check(sheet_of(row("a")), ["a"])
        self.check(sheet_of(row("c"), row("a"), row("b")), ["c", "a", "b"])
        self.check(sheet_of(Input("z", "truth"), row("c"), Input("y", "number"), row("a")), ["z", "y", "c", "a"])

    def test_lines_in_any_order(self):
        lines = [row("a", ONE), row("b", A), row("c", Pair("+", A, B)), row("d", Pair("+", C, A))]
        for some in itertools.permutations(lines):
            self.check(sheet_of(*some), ["a", "b", "c", "d"])

    def test_the_first_of_those_that_may_come(self):
        self.check(sheet_of(row("a", B), row("b"), row("c")), ["b", "a", "c"])
        self.check(sheet_of(row("a", C), row("b"), row("c")), ["b", "c", "a"])
        self.check(sheet_of(row("d", named("a", "b")), row("c", A), row("b"), row("a")), ["b", "a", "d", "c"])
        self.check(sheet_of(row("c", B), row("a"), row("b", A), row("e"), row("d", C)), ["a", "b", "c", "e", "d"])

    def test_ons(self):
        self.check(sheet_of(Input("a", "number", "c"), row("b", ONE, "c"), row("c", YES, None, "truth")), ["c", "a", "b"])
        self.check(sheet_of(Input("a", "truth", "b"), Input("b", "truth"), row("c", ONE, "a")), ["b", "a", "c"])
        self.check(sheet_of(row("a", ONE, "b"), row("b", YES, "c", "truth"), row("c", YES, None, "truth")),
                   ["c", "b", "a"])

    def test_the_names_of_when_and_held(self):
        self.check(sheet_of(row("a", When(ONE, "c")), row("b", Held(ONE, "c")), row("c")), ["c", "a", "b"])

    def test_what_stands_in_a_before_is_not_needed(self):
        self.check(sheet_of(row("a", Before(A))), ["a"])
        self.check(sheet_of(row("a", Before(B)), row("b", A)), ["a", "b"])
        self.check(sheet_of(row("b", A), row("a", Before(B))), ["a", "b"])
        self.check(sheet_of(row("a", Before(Held(B, "c"))), row("b", Before(Pair("+", A, B))), row("c", B)),
                   ["a", "b", "c"])

    def test_eighty_rows_and_eight_inputs(self):
        names = letters(80)
        rows = [row(names[0])] + [row(name, Named(ahead)) for ahead, name in zip(names, names[1:])]
        inputs = [Input(name, "truth") for name in letters(8, "i")]
        self.check(sheet_of(*inputs, *rows[::-1]), letters(8, "i") + names)

    def test_a_list_of_ones_own(self):
        sheet = sheet_of(row("b", A), row("a"))
        names = order(sheet=sheet)
        names.reverse()
        names.append("c")
        self.assertEqual(order(sheet), ["a", "b"])

    def test_kinds_and_beats_are_not_looked_at(self):
        self.check(sheet_of(row("b", Turned(Pair("+", A, YES))), row("a", When(ONE, "c")), row("c", YES, None, "truth")),
                   ["c", "a", "b"])

    def test_a_sheet_with_a_use(self):
        use = Use(["p"], "other", [A])
        for lines in ([use, row("a")], [row("a", A), use], [row("a", Named("p")), use]):
            sheet = Sheet("main", [], ["a"], lines)
            refused(self, NoSheet, order, sheet)
            for names in ([], ["p", "a"], ["a", "p"], ["none"]):
                refused(self, NoSheet, is_order, sheet, names)

    def test_the_sheet_stays(self):
        for sheet in (sheet_of(row("b", A), row("a")), sheet_of(row("b", A), row("a", B))):
            told = sheet_tells(sheet)
            for look in (order, lambda one: is_order(one, ["a", "b"])):
                try:
                    look(sheet)
                except Ring:
                    pass
                self.assertEqual(sheet_tells(sheet), told)


class Rings(unittest.TestCase):
    def ring_of(self, sheet):
        """The ring that is told of a sheet, looked through pair by pair."""
        ring = refused(self, Ring, order, sheet).ring
        self.assertIs(type(ring), tuple)
        names = []
        for pair in ring:
            self.assertIs(type(pair), tuple)
            self.assertEqual(len(pair), 2)
            names.append(pair[0])
        self.assertGreater(len(names), 0)
        self.assertEqual(len(set(names)), len(names))
        for at, (name, place) in enumerate(ring):
            need, line = names[(at + 1) % len(names)], sheet.line(name)
            places = places_looked_at(line.part.told()) if isinstance(line, Row) else []
            if place is None:
                self.assertEqual(line.on, need)
                self.assertNotIn(need, [one for one, other in places])
            else:
                self.assertIs(type(place), tuple)
                self.assertIn((need, place), places)
        return ring

    def test_of_one_name(self):
        for part, place in (
            (A, ()), (Turned(A), (0,)), (Pair("+", ONE, A), (1,)), (Choice(X, ONE, A), (2,)), (Led(ONE, A), (1,)),
            (When(ONE, "a"), ()), (Held(X, "a"), ()), (Held(When(X, "a"), "x"), (0,)),
            (Pair("+", Before(A), Pair("-", X, A)), (1, 1)), (When(Before(A), "a"), ()), (Held(Before(A), "a"), ()),
            (Choice(Before(A), Before(Turned(A)), Turned(Turned(A))), (2, 0, 0)), (When(A, "x"), (0,)),
        ):
            self.assertEqual(self.ring_of(sheet_of(Input("x", "truth"), row("a", part))), (("a", place),), part.text())

    def test_of_one_name_at_several_places(self):
        for part in (Pair("+", A, A), When(A, "a"), Held(Turned(A), "a"), Choice(A, Before(A), A)):
            self.assertEqual(len(self.ring_of(sheet_of(row("b"), row("a", part), row("c", A)))), 1)

    def test_of_two(self):
        ring = self.ring_of(sheet_of(row("a", Turned(B)), row("b", Pair("+", ONE, A))))
        self.assertEqual(sorted(ring), [("a", (0,)), ("b", (1,))])

    def test_of_several(self):
        for many in (3, 5, 80):
            names = letters(many)
            rows = [row(name, Pair("+", ONE, Named(other))) for name, other in zip(names, names[1:] + names[:1])]
            ring = self.ring_of(sheet_of(*rows))
            self.assertEqual(sorted(ring), [(name, (1,)) for name in names])

    def test_names_that_are_not_in_it(self):
        # What is needed by the ring, and what needs it, stands in no ring.
        lines = [row("z", A), row("a", named("x", "b")), row("b", named("y", "c")), row("c", A), row("y"),
                 row("w", named("z", "x")), Input("x", "truth")]
        for some in (lines, lines[::-1], lines[3:] + lines[:3]):
            self.assertEqual(sorted(name for name, place in self.ring_of(sheet_of(*some))), ["a", "b", "c"])

    def test_one_of_several_rings(self):
        lines = [row("a", B), row("b", A), row("c", Named("d")), row("d", C), row("e", named("a", "c"))]
        for some in itertools.permutations(lines):
            names = sorted(name for name, place in self.ring_of(sheet_of(*some)))
            self.assertIn(names, [["a", "b"], ["c", "d"]])

    def test_through_an_on(self):
        a, b = row("a", B), row("b", YES, "c", "truth")
        c = row("c", A, None, "truth")
        self.assertEqual(sorted(self.ring_of(sheet_of(a, b, c))), [("a", ()), ("b", None), ("c", ())])
        b = row("b", When(ONE, "c"), "c", "truth")
        self.assertEqual(sorted(self.ring_of(sheet_of(a, b, c))), [("a", ()), ("b", ()), ("c", ())])
        b = row("b", Before(C), "c", "truth")
        self.assertEqual(sorted(self.ring_of(sheet_of(a, b, c)), key=str), [("a", ()), ("b", None), ("c", ())])
        b = row("b", Turned(Turned(C)), "c", "truth")
        self.assertEqual(sorted(self.ring_of(sheet_of(a, b, c)), key=str), [("a", ()), ("b", (0, 0)), ("c", ())])

    def test_through_the_on_of_an_input(self):
        ring = self.ring_of(sheet_of(Input("x", "number", "a"), row("a", Pair("<", X, ONE), None, "truth")))
        self.assertEqual(sorted(ring), [("a", (0,)), ("x", None)])
        ring = self.ring_of(sheet_of(Input("x", "truth", "a"), Input("y", "truth", "x"),
                                     row("a", Named("y"), None, "truth")))
        self.assertEqual(sorted(ring), [("a", ()), ("x", None), ("y", None)])

    def test_through_the_names_of_when_and_held(self):
        for part in (When(ONE, "b"), Held(X, "b"), Held(Before(B), "b")):
            self.assertEqual(sorted(self.ring_of(sheet_of(Input("x", "truth"), row("a", part), row("b", A)))),
                             [("a", ()), ("b", ())])
        part = Pair("+", When(Before(B), "x"), Turned(Held(ONE, "b")))
        self.assertEqual(sorted(self.ring_of(sheet_of(Input("x", "truth"), row("a", part), row("b", A)))),
                         [("a", (1, 0)), ("b", ())])

    def test_with_a_before_in_between(self):
        for part in (Before(A), Before(Turned(A)), Turned(Before(A)), Before(When(ONE, "a")), Before(Held(A, "a"))):
            for lines in ([row("a", B), row("b", part)], [row("b", part), row("a", B)]):
                self.assertEqual(order(sheet_of(*lines)), ["b", "a"])
        self.assertEqual(sorted(self.ring_of(sheet_of(row("a", B), row("b", Pair("+", Before(A), A))))),
                         [("a", ()), ("b", (1,))])

    def test_any_sheets(self):
        ended = [0, 0]
        for seed in range(1500):
            sheet = any_sheet(random.Random(seed))
            expected = first_order(sheet)
            ended[expected is None] += 1
            if expected is None:
                self.ring_of(sheet)
                self.assertIs(is_order(sheet, sheet.names()), False)
            else:
                self.assertEqual(order(sheet), expected)
                self.assertIs(is_order(sheet, expected), True)
        # The sample is of use only if it has many of both.
        self.assertGreater(min(ended), 200, ended)


class IsOrder(unittest.TestCase):
    def test_all_orders_and_no_others(self):
        sheet = sheet_of(row("d", named("a", "b")), row("b", A), row("a"), row("c", Before(Named("d"))))
        for names in itertools.permutations("abcd"):
            expected = names.index("a") < names.index("b") < names.index("d")
            for handed in (list(names), names):
                self.assertIs(is_order(sheet, handed), expected, names)

    def test_of_inputs_and_ons(self):
        sheet = sheet_of(Input("x", "number", "y"), Input("y", "truth"), row("a", ONE, "y"))
        for names in itertools.permutations("xya"):
            self.assertIs(is_order(sheet, list(names)), names[0] == "y", names)

    def test_left_out_twice_unknown_and_none(self):
        sheet = sheet_of(row("b", A), row("a"), row("c"))
        self.assertIs(is_order(sheet, ["a", "b", "c"]), True)
        for names in (
            [], (), ["a"], ["a", "b"], ["a", "c"], ["b", "c"], ["b", "a", "c"], ["c", "b", "a"], ["a", "b", "b"],
            ["a", "b", "c", "c"], ["a", "a", "b", "c"], ["a", "b", "c", "a"], ["a", "b", "d"], ["a", "b", "c", "d"],
            ["d", "a", "b", "c"], ["a", "d", "b", "c"], [""], ["a", "b", ""], ["a", "b", "c", ""], ["a", "a", "a"],
            ["a", "b", "C"], ["a", "b", "c "], ["c", "c", "c"],
        ):
            self.assertIs(is_order(sheet, names), False, names)

    def test_of_a_sheet_without_an_order(self):
        for sheet in (sheet_of(row("a", B), row("b", A), row("c")), sheet_of(row("a"), row("b", B), row("c"))):
            for many in range(4):
                for names in itertools.permutations("abc", many):
                    self.assertIs(is_order(sheet, list(names)), False)
        self.assertIs(is_order(sheet_of(row("a", A)), ["a"]), False)

    def test_what_is_handed_in_stays(self):
        sheet = sheet_of(row("b", A), row("a"))
        for names in (["a", "b"], ["b", "a"], ["a", "a"], []):
            handed = list(names)
            is_order(sheet=sheet, names=handed)
            self.assertEqual(handed, names)

    def test_any_lists(self):
        for seed in range(300):
            chance = random.Random(seed)
            sheet = any_sheet(chance)
            needs = {line.name: told_needs(line) for line in sheet.inputs + sheet.lines}
            for at in range(10):
                names = sheet.names()
                chance.shuffle(names)
                expected = all(set(needs[name]) <= set(names[:at]) for at, name in enumerate(names))
                self.assertIs(is_order(sheet, names), expected)
