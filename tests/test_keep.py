import unittest

from runrows.parts import Choice, Given, Named, Pair, Turned
from runrows.timed import Before, Held, Led, When
from tests.helper import all_kinds, exact, place_in

A, B = Named("a"), Named("b")
PLACES = ((), (1,), (2, 0))


class Keep(unittest.TestCase):
    def puts(self, want, part, now, comes, kept=None):
        for place in PLACES:
            handed_now = dict(now)
            memories = {place + within: value for within, value in (kept or {}).items()}
            handed_kept = dict(memories)
            other = {(9,): 1, (9, 9): True}
            more = dict(other)
            self.assertIs(part.keep(handed_now, handed_kept, place, comes, more), None)
            all_of_it = dict(other)
            all_of_it.update({place + within: value for within, value in want.items()})
            self.assertEqual(exact(more), exact(all_of_it), (part.text(), now, comes, kept))
            self.assertEqual(exact(handed_now), exact(now))
            self.assertEqual(exact(handed_kept), exact(memories))

    def test_those_without_memories(self):
        now = {"a": True, "b": False, "c": True}
        for part in (
            Given(1), A, Turned(A), Pair("and", A, B), Choice(A, A, B), When(A, "c"), Turned(When(Turned(A), "c")),
        ):
            for comes in (True, False):
                self.puts({}, part, now, comes)
                self.puts({}, part, now, comes, {(): 3, (0,): 4})

    def test_before(self):
        for value in (5, 0, -128, True, False):
            self.puts({(): value}, Before(A), {"a": value}, True)
            self.puts({(): value}, Before(A, 7), {"a": value}, True, {(): 3})
        self.puts({}, Before(A, 7), {"a": 5}, False)
        self.puts({}, Before(A, 7), {}, False)
        self.puts({}, Before(A, 7), {"a": 5}, False, {(): 3})
        self.puts({(): 4}, Before(Given(4)), {}, True)

    def test_before_of_a_worth_brought_back(self):
        self.puts({(): -128}, Before(Pair("+", A, Given(1))), {"a": 127}, True)

    def test_before_in_before(self):
        self.puts({(): 7, (0,): 5}, Before(Before(A, 7), 8), {"a": 5}, True)
        self.puts({(): 6, (0,): 5}, Before(Before(A, 7), 8), {"a": 5}, True, {(0,): 6, (): 1})
        self.puts({}, Before(Before(A, 7), 8), {"a": 5}, False, {(0,): 6})

    def test_led(self):
        now = {"a": 1, "b": 2}
        self.puts({(): True}, Led(A, B), now, True)
        self.puts({(): True}, Led(A, B), now, True, {(): True})
        self.puts({}, Led(A, B), now, False)
        self.puts({}, Led(A, B), now, False, {(): True})

    def test_all_within_led_keep(self):
        part = Led(Before(A), Led(B, Before(B)))
        now = {"a": 1, "b": 2}
        for kept in ({}, {(): True}):
            self.puts({(): True, (0,): 1, (1,): True, (1, 1): 2}, part, now, True, kept)
            self.puts({}, part, now, False, kept)
        self.puts({(): 1, (0,): True}, Before(Led(A, B)), now, True)
        self.puts({(): 2, (0,): True}, Before(Led(A, B)), now, True, {(0,): True})

    def test_held(self):
        for comes in (True, False):
            for value in (5, 0, True, False):
                self.puts({(): value}, Held(A, "c"), {"a": value, "c": True}, comes)
                self.puts({(): value}, Held(A, "c", 7), {"a": value, "c": True}, comes, {(): 3})
            self.puts({}, Held(A, "c", 7), {"a": 5, "c": False}, comes)
            self.puts({}, Held(A, "c", 7), {"c": False}, comes)
            self.puts({}, Held(A, "c", 7), {}, comes)
            self.puts({}, Held(A, "c", 7), {"a": 5}, comes, {(): 3})

    def test_within_held_where_its_name_is_true(self):
        part = Held(Pair("+", Before(A, 7), Led(A, B)), "c", 9)
        for comes in (True, False):
            now = {"a": 5, "b": 6, "c": True}
            self.puts({(): 12, (0, 0): 5, (0, 1): True}, part, now, comes)
            self.puts({(): 8, (0, 0): 5, (0, 1): True}, part, now, comes, {(0, 0): 2, (0, 1): True})
            self.puts({}, part, {"a": 5, "b": 6, "c": False}, comes)
            self.puts({}, part, {"a": 5, "b": 6}, comes)

    def test_within_when_where_now_has_its_name(self):
        part = When(Pair("+", Before(A, 7), Led(A, B)), "c")
        for comes in (True, False):
            for truth in (True, False):
                now = {"a": 5, "b": 6, "c": truth}
                self.puts({(0, 0): 5, (0, 1): True}, part, now, comes)
                self.puts({(0, 0): 5, (0, 1): True}, part, now, comes, {(0, 0): 2, (0, 1): True})
            self.puts({}, part, {"a": 5, "b": 6}, comes)
            self.puts({}, part, {}, comes)

    def test_when_in_when(self):
        part = When(When(Before(A, 7), "c"), "e")
        self.puts({(0, 0): 5}, part, {"a": 5, "c": False}, False)
        self.puts({(0, 0): 5}, part, {"a": 5, "c": True, "e": False}, False)
        self.puts({}, part, {"a": 5, "e": True}, True)
        part = When(Before(When(A, "c"), 7), "e")
        self.puts({}, part, {"a": 5, "c": False}, False)
        self.puts({(0,): 5}, part, {"a": 5, "c": True, "e": False}, False)

    def test_held_in_when_and_when_in_held(self):
        part = When(Held(A, "c", 7), "e")
        self.puts({(0,): 5}, part, {"a": 5, "c": True}, True)
        self.puts({}, part, {"a": 5, "c": False, "e": True}, True)
        part = Held(When(Before(A, 7), "c"), "c", 9)
        self.puts({(0, 0): 5}, part, {"a": 5, "c": False}, True)
        self.puts({(0, 0): 5, (): 7}, part, {"a": 5, "c": True}, True)
        self.puts({(0, 0): 5, (): 2}, part, {"a": 5, "c": True}, True, {(0, 0): 2, (): 3})
        self.puts({}, part, {"a": 5}, True)

    def test_before_of_held(self):
        part = Before(Held(A, "c", 7), 8)
        self.puts({(): 5, (0,): 5}, part, {"a": 5, "c": True}, True)
        self.puts({(): 7}, part, {"c": False}, True)
        self.puts({(): 3}, part, {"c": False}, True, {(0,): 3, (): 1})
        self.puts({}, part, {}, False, {(0,): 3})
        self.puts({(0,): 5}, part, {"a": 5, "c": True}, False)

    def test_the_parts_within_come_as_it_does(self):
        within = Before(A, False)
        now = {"a": True, "c": True}
        for whole in all_kinds(within):
            place = (place_in(whole, within),)
            for comes in (True, False):
                within_comes = comes or isinstance(whole, (When, Held))
                want = {place: True} if within_comes else {}
                if isinstance(whole, (Before, Led)) and comes:
                    want[()] = isinstance(whole, Led)
                if isinstance(whole, Held):
                    want[()] = False
                self.puts(want, whole, now, comes)

    def test_the_parts_within_look_at_what_was_kept(self):
        within = Before(Before(A, False), False)
        now = {"a": False, "c": True}
        for whole in all_kinds(within):
            place = (place_in(whole, within),)
            want = {place: True, place + (0,): False}
            if isinstance(whole, (Before, Led, Held)):
                want[()] = isinstance(whole, Led)
            self.puts(want, whole, now, True, {place + (0,): True})

    def test_choice_keeps_in_all_of_it(self):
        part = Choice(Before(A, True), Before(B, 1), Before(B, 2))
        now = {"a": True, "b": 4}
        for kept in ({}, {(0,): False}, {(0,): True}):
            self.puts({(0,): True, (1,): 4, (2,): 4}, part, now, True, kept)
            self.puts({}, part, now, False, kept)

    def test_what_was_in_more_at_its_place_is_put_anew(self):
        more = {(): 1, (0,): 2}
        Before(A).keep({"a": 5}, {(): 3}, (), True, more)
        self.assertEqual(more, {(): 5, (0,): 2})
        more = {(): 1, (0,): 2}
        Before(A).keep({"a": 5}, {(): 3}, (), False, more)
        self.assertEqual(more, {(): 1, (0,): 2})
