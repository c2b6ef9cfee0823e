import unittest

from runrows.errors import NoKind
from runrows.parts import Choice, Given, Named, Pair, Turned
from runrows.timed import Before, Held, Led, When
from tests.helper import all_kinds, place_in

KINDS = {"n": "number", "m": "number", "t": "truth", "u": "truth", "c": "truth"}
N, M, T, U = Named("n"), Named("m"), Named("t"), Named("u")
BAD = Turned(Given(1))
PLACES = ((), (0,), (2, 0, 1))


class KindBy(unittest.TestCase):
    def tells(self, kind, part):
        for place in PLACES:
            self.assertEqual(part.kind_by(dict(KINDS), place), kind, part.text())

    def refuses(self, part, within=()):
        for place in PLACES:
            with self.assertRaises(NoKind) as caught:
                part.kind_by(dict(KINDS), place)
            self.assertIs(caught.exception.row, None)
            self.assertEqual(caught.exception.place, place + within, part.text())
            self.assertIs(type(caught.exception.place), tuple)

    def test_given(self):
        for value in (True, False):
            self.tells("truth", Given(value))
        for value in (0, 1, -128, 127):
            self.tells("number", Given(value))

    def test_named(self):
        self.tells("number", N)
        self.tells("truth", T)

    def test_turned(self):
        self.tells("truth", Turned(T))
        self.tells("truth", Turned(Given(False)))
        self.refuses(Turned(N))
        self.refuses(Turned(Given(0)))
        self.refuses(Turned(Given(1)))

    def test_pairs(self):
        told = {"+": "number", "-": "number", "*": "number", "<": "truth", "<=": "truth"}
        for sign, kind in told.items():
            self.tells(kind, Pair(sign, N, M))
            self.tells(kind, Pair(sign, Given(1), N))
            for one, other in ((T, N), (N, T), (T, U), (Given(True), Given(1)), (Given(1), Given(False))):
                self.refuses(Pair(sign, one, other))
        for sign in ("and", "or"):
            self.tells("truth", Pair(sign, T, U))
            self.tells("truth", Pair(sign, Given(True), T))
            for one, other in ((T, N), (N, T), (N, M), (Given(True), Given(1)), (Given(0), Given(1))):
                self.refuses(Pair(sign, one, other))

    def test_the_same(self):
        self.tells("truth", Pair("=", N, M))
        self.tells("truth", Pair("=", T, U))
        self.tells("truth", Pair("=", Given(True), T))
        self.refuses(Pair("=", N, T))
        self.refuses(Pair("=", T, N))
        self.refuses(Pair("=", Given(True), Given(1)))

    def test_choice(self):
        self.tells("number", Choice(T, N, M))
        self.tells("truth", Choice(T, U, T))
        for truth, one, other in ((N, N, M), (N, T, U), (T, N, U), (T, U, N), (Given(1), N, N)):
            self.refuses(Choice(truth, one, other))

    def test_before(self):
        self.tells("number", Before(N))
        self.tells("truth", Before(T))
        self.tells("number", Before(N, 0))
        self.tells("number", Before(N, 1))
        self.tells("truth", Before(T, False))
        self.tells("truth", Before(T, True))
        for part, first in ((N, False), (N, True), (T, 0), (T, 1)):
            self.refuses(Before(part, first))

    def test_led(self):
        self.tells("number", Led(N, M))
        self.tells("truth", Led(T, U))
        self.refuses(Led(N, T))
        self.refuses(Led(T, N))
        self.refuses(Led(Given(1), Given(True)))

    def test_when(self):
        self.tells("number", When(N, "c"))
        self.tells("truth", When(T, "c"))
        self.refuses(When(N, "n"))
        self.refuses(When(T, "n"))

    def test_held(self):
        self.tells("number", Held(N, "c"))
        self.tells("truth", Held(T, "c"))
        self.tells("number", Held(N, "c", 0))
        self.tells("truth", Held(T, "c", False))
        for part, name, first in (
            (N, "n", None), (T, "n", None), (N, "c", False), (N, "c", True), (T, "c", 0), (T, "c", 1), (N, "n", 3),
            (T, "n", True),
        ):
            self.refuses(Held(part, name, first))

    def test_the_place_of_an_inner_one(self):
        for whole in all_kinds(BAD):
            self.refuses(whole, (place_in(whole, BAD),))
            self.refuses(Turned(whole), (0, place_in(whole, BAD)))
            self.refuses(Pair("+", Given(1), whole), (1, place_in(whole, BAD)))

    def test_its_own_place_and_not_that_of_the_part_in_it(self):
        self.refuses(Turned(Pair("+", N, M)))
        self.refuses(Choice(Given(True), Given(1), Pair("<", N, M)))
        self.refuses(Pair("and", Given(True), Pair("+", N, Pair("*", N, T))), (1, 1))

    def test_the_first_from_the_left(self):
        self.refuses(Pair("and", BAD, BAD), (0,))
        self.refuses(Pair("and", Given(True), BAD), (1,))
        self.refuses(Choice(BAD, BAD, BAD), (0,))
        self.refuses(Choice(T, BAD, BAD), (1,))
        self.refuses(Choice(N, T, BAD), (2,))
        self.refuses(Led(BAD, BAD), (0,))
        self.refuses(Led(N, BAD), (1,))
        self.refuses(Pair("and", Pair("and", T, BAD), BAD), (0, 1))
        self.refuses(Pair("and", Turned(Turned(N)), BAD), (0, 0))

    def test_inner_ones_first(self):
        self.refuses(Pair("+", T, BAD), (1,))
        self.refuses(Pair("=", N, BAD), (1,))
        self.refuses(Choice(N, N, BAD), (2,))
        self.refuses(Before(BAD, 3), (0,))
        self.refuses(When(BAD, "n"), (0,))
        self.refuses(Held(BAD, "n", 3), (0,))
        self.refuses(Turned(Pair("+", Turned(BAD), T)), (0, 0, 0))

    def test_all_in_one(self):
        part = Held(When(Led(Given(3), Choice(Pair("<", N, Given(2)), Before(N, 1), Pair("*", N, M))), "c"), "c", 0)
        self.tells("number", part)
        self.tells("truth", Pair("<=", part, N))

    def test_what_is_handed_in_stays(self):
        kinds = {"n": "number", "t": "truth"}
        Choice(T, N, N).kind_by(kinds, ())
        self.assertEqual(kinds, {"n": "number", "t": "truth"})
