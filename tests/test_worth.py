import unittest

from runrows.parts import Choice, Given, Named, Pair, Turned
from runrows.timed import Before, Held, Led, When
from tests.helper import exact, run

A, B = Named("a"), Named("b")
PLACES = ((), (0,), (2, 1))


def brought_by_steps(number):
    while number > 127:
        number -= 256
    while number < -128:
        number += 256
    return number


class OneStep(unittest.TestCase):
    def worth(self, want, part, now=None, kept=None):
        for place in PLACES:
            memories = {place + within: value for within, value in (kept or {}).items()}
            got = part.worth(dict(now or {}), memories, place)
            self.assertEqual(exact(got), exact(want), (part.text(), now, kept))

    def test_given(self):
        for value in (True, False, 0, 1, -128, 127):
            self.worth(value, Given(value))

    def test_named(self):
        for value in (True, False, 0, 1, -128, 127):
            self.worth(value, Named("a.b"), {"a.b": value, "a": 9})

    def test_turned(self):
        self.worth(False, Turned(A), {"a": True})
        self.worth(True, Turned(A), {"a": False})

    def test_sums_differences_and_products(self):
        numbers = (-128, -127, -100, -64, -16, -3, -1, 0, 1, 2, 12, 64, 100, 126, 127)
        for one in numbers:
            for other in numbers:
                now = {"a": one, "b": other}
                self.worth(brought_by_steps(one + other), Pair("+", A, B), now)
                self.worth(brought_by_steps(one - other), Pair("-", A, B), now)
                self.worth(brought_by_steps(one * other), Pair("*", A, B), now)
                self.worth(one == other, Pair("=", A, B), now)
                self.worth(one < other, Pair("<", A, B), now)
                self.worth(one < other or one == other, Pair("<=", A, B), now)

    def test_sums_beyond(self):
        for sign, one, other, want in (
            ("+", 127, 1, -128), ("+", 127, 127, -2), ("+", -128, -1, 127), ("+", -128, -128, 0),
            ("-", -128, 1, 127), ("-", 127, -1, -128), ("-", 0, -128, -128), ("-", -128, 127, 1),
            ("*", 16, 16, 0), ("*", -128, -128, 0), ("*", -128, -1, -128), ("*", 127, 127, 1), ("*", 127, -128, -128),
            ("*", 12, 12, -112), ("*", 64, 2, -128), ("*", -64, 2, -128), ("*", -65, 2, 126),
        ):
            self.worth(want, Pair(sign, Given(one), Given(other)))

    def test_brought_back_within_too(self):
        self.worth(True, Pair("<", Pair("+", Given(127), Given(1)), Given(0)))
        self.worth(16, Pair("*", Given(100), Given(100)))

    def test_truths(self):
        for one in (True, False):
            for other in (True, False):
                now = {"a": one, "b": other}
                self.worth(one and other, Pair("and", A, B), now)
                self.worth(one or other, Pair("or", A, B), now)
                self.worth(one == other, Pair("=", A, B), now)

    def test_truths_never_stand_for_numbers(self):
        for truth, number in ((True, 1), (False, 0)):
            self.worth(False, Pair("=", Given(truth), Given(number)))
            self.worth(False, Pair("=", Given(number), Given(truth)))

    def test_choice(self):
        for one, other in ((3, 5), (True, False), (False, True)):
            self.worth(one, Choice(Named("c"), A, B), {"c": True, "a": one, "b": other})
            self.worth(other, Choice(Named("c"), A, B), {"c": False, "a": one, "b": other})

    def test_before(self):
        self.worth(7, Before(A, 7), {"a": 1})
        self.worth(7, Before(A, 7))
        self.worth(0, Before(A, 0), {"a": 1})
        self.worth(False, Before(A, False), {"a": True})
        self.worth(3, Before(A, 7), {"a": 1}, {(): 3})
        self.worth(0, Before(A, 7), {"a": 1}, {(): 0})
        self.worth(False, Before(A, True), {"a": True}, {(): False})
        self.worth(3, Before(A), {"a": 1}, {(): 3})
        self.worth(7, Before(A, 7), {"a": 1}, {(0,): 3})

    def test_led(self):
        self.worth(1, Led(A, B), {"a": 1, "b": 2})
        self.worth(2, Led(A, B), {"a": 1, "b": 2}, {(): True})
        self.worth(1, Led(A, B), {"a": 1, "b": 2}, {(0,): True, (1,): True})

    def test_when(self):
        self.worth(5, When(A, "c"), {"a": 5, "c": True})
        self.worth(5, When(Before(A, 7), "c"), {"a": 1, "c": True}, {(0,): 5})

    def test_held(self):
        self.worth(5, Held(A, "c", 7), {"a": 5, "c": True})
        self.worth(5, Held(A, "c", 7), {"a": 5, "c": True}, {(): 3})
        self.worth(3, Held(A, "c", 7), {"c": False}, {(): 3})
        self.worth(0, Held(A, "c", 7), {"c": False}, {(): 0})
        self.worth(7, Held(A, "c", 7), {"c": False})
        self.worth(False, Held(A, "c", False), {"c": False})
        self.worth(3, Held(A, "c"), {"c": False}, {(): 3})
        self.worth(7, Held(A, "c", 7), {"c": False}, {(0,): 3})
        self.worth(5, Held(A, "c"), {"a": 5, "c": True})

    def test_held_looks_at_its_part_only_where_that_comes(self):
        self.worth(4, Held(Pair("+", A, B), "c", 4), {"c": False})
        self.worth(4, Held(Pair("+", A, B), "c"), {"c": False}, {(): 4})

    def test_before_does_not_look_at_its_part(self):
        self.worth(4, Before(Pair("+", A, B), 4), {})

    def test_memories_by_place(self):
        part = Choice(Before(A, True), Pair("+", Before(B, 1), Held(B, "c", 2)), Led(B, Turned(Before(A, False))))
        now = {"a": True, "b": 9, "c": False}
        self.worth(3, part, now)
        self.worth(30, part, now, {(1, 0): 10, (1, 1): 20})
        self.worth(9, part, now, {(0,): False})
        self.worth(True, part, now, {(0,): False, (2,): True})
        self.worth(False, part, now, {(0,): False, (2,): True, (2, 1, 0): True})
        self.worth(12, part, now, {(0,): True, (1, 1): 11, (0, 0): 8, (1,): 8})
        within = Turned(When(Turned(Before(A, False)), "c"))
        self.worth(False, within, {"c": True})
        self.worth(True, within, {"c": True}, {(0, 0, 0): True})
        self.worth(6, Held(Before(A, 1), "c", 2), {"c": True}, {(0,): 6, (): 5})
        self.worth(1, Led(Before(A, 1), Before(A, 2)), {})
        self.worth(2, Led(Before(A, 1), Before(A, 2)), {}, {(): True})
        self.worth(3, Led(Before(A, 1), Before(A, 2)), {}, {(): True, (0,): 4, (1,): 3})
        self.worth(4, Led(Before(A, 1), Before(A, 2)), {}, {(0,): 4, (1,): 3})

    def test_what_is_handed_in_stays(self):
        now = {"a": 1, "b": 2, "c": True}
        kept = {(0,): 4}
        Pair("+", Before(A, 1), Held(Led(A, B), "c", 3)).worth(now, kept, ())
        self.assertEqual(now, {"a": 1, "b": 2, "c": True})
        self.assertEqual(kept, {(0,): 4})


class Steps(unittest.TestCase):
    def goes(self, want, part, steps):
        self.assertEqual(exact(run(part, steps)), exact(want), part.text())

    def test_before(self):
        steps = [{"a": 1}, {"a": 2}, {"a": 3}, {"a": -4}]
        self.goes([9, 1, 2, 3], Before(A, 9), steps)
        self.goes([8, 9, 1, 2], Before(Before(A, 9), 8), steps)
        self.goes([1, 1, 2, 3], Led(A, Before(A, 9)), steps)
        self.goes([0, 1, 1, 1], Pair("-", A, Before(A, 1)), steps[:3] + [{"a": 4}])

    def test_before_of_a_row_that_does_not_come_at_each_step(self):
        steps = [{"a": 1}, ({}, False), {"a": 2}, ({}, False), ({}, False), {"a": 3}]
        self.goes([9, None, 1, None, None, 2], Before(A, 9), steps)
        self.goes([1, None, 1, None, None, 2], Led(A, Before(A, 9)), steps)
        self.goes([None, 9, 1], Before(A, 9), [({}, False), {"a": 1}, {"a": 2}])

    def test_led(self):
        steps = [{"a": 1, "b": 10}, {"a": 2, "b": 20}, {"a": 3, "b": 30}]
        self.goes([1, 20, 30], Led(A, B), steps)
        self.goes([1, 2, 3], Led(Led(A, B), A), steps)
        self.goes([5, 20, 30], Led(Given(5), Led(A, B)), steps)
        self.goes([None, 1, 20], Led(A, B), [({"a": 7, "b": 7}, False)] + steps[:2])

    def test_led_behind_one_that_comes_later(self):
        # Led's rest comes as Led does: its own first step is the same one.
        self.goes([5, 10, 10], Led(Given(5), Led(Given(6), Given(10))), [{}, {}, {}])

    def test_held(self):
        steps = [{"c": False}, {"c": True, "a": 1}, {"c": False}, {"c": True, "a": 0}, {"c": False}, {"c": False}]
        self.goes([9, 1, 1, 0, 0, 0], Held(A, "c", 9), steps)
        truths = [{"c": False}, {"c": True, "a": True}, {"c": False}, {"c": True, "a": False}, {"c": False}]
        self.goes([False, True, True, False, False], Held(A, "c", False), truths)

    def test_held_with_a_before_in_it_counts_its_own_steps(self):
        steps = [{"c": True, "a": 1}, {"c": False}, {"c": True, "a": 2}, {"c": False}, {"c": True, "a": 3}]
        self.goes([9, 9, 1, 1, 2], Held(Before(A, 9), "c", 8), steps)
        self.goes([1, 1, 5, 5, 5], Held(Led(A, Given(5)), "c", 8), steps)

    def test_held_of_when(self):
        steps = [{"c": False, "a": 1}, {"c": True, "a": 2}, {"c": False, "a": 3}, {"c": True, "a": 4}]
        self.goes([9, 2, 2, 4], Held(When(A, "c"), "c", 9), steps)
        # Within When the part comes at each step of c, within Held alone at those at which c is True.
        self.goes([7, 1, 1, 3], Held(When(Before(A, 0), "c"), "c", 7), steps)
        self.goes([7, 8, 8, 2], Held(Before(When(A, "c"), 8), "c", 7), steps)
        self.goes([7, 5, 5, 5], Held(When(Led(Given(6), Given(5)), "c"), "c", 7), steps)

    def test_a_count_that_goes_round(self):
        count = Led(Given(126), Pair("+", Named("old"), Given(1)))
        old, worths, kept = 0, [], {}
        for _ in range(4):
            now = {"old": old}
            old = count.worth(now, kept, ())
            worths.append(old)
            more = dict(kept)
            count.keep(now, kept, (), True, more)
            kept = more
        self.assertEqual(worths, [126, 127, -128, -127])
