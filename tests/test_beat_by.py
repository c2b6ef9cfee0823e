import unittest

from runrows.errors import NoBeat
from runrows.parts import Choice, Given, Named, Pair, Turned
from runrows.timed import Before, Held, Led, When
from tests.helper import SIGNS, all_kinds, place_in

# c and d come at all steps, e with c; a name of two letters comes at the beat of c, or of c and e.
BEATS = {
    "a": (), "b": (), "c": (), "d": (),
    "e": ("c",), "xc": ("c",), "yc": ("c",), "xd": ("d",),
    "xe": ("c", "e"),
}
A, B = Named("a"), Named("b")
XC, YC, XD, XE = Named("xc"), Named("yc"), Named("xd"), Named("xe")
ONE = Given(1)
BAD = Pair("+", A, XD)
PLACES = ((), (1,), (0, 2, 1))


class BeatBy(unittest.TestCase):
    def tells(self, beat, part):
        for place in PLACES:
            got = part.beat_by(dict(BEATS), place)
            self.assertEqual(got, beat, part.text())
            self.assertIs(type(got), type(beat), part.text())

    def refuses(self, part, one, other, within=()):
        for place in PLACES:
            with self.assertRaises(NoBeat) as caught:
                part.beat_by(dict(BEATS), place)
            error = caught.exception
            self.assertIs(error.row, None)
            self.assertEqual((error.place, error.one, error.other), (place + within, one, other), part.text())

    def test_no_names_no_beat(self):
        for part in (ONE, Given(True), Turned(Given(True)), Before(ONE), Before(ONE, 3), Led(ONE, ONE),
                     Choice(Given(True), ONE, ONE), Turned(Before(Led(Given(True), Given(False))))):
            self.tells(None, part)
        for sign in SIGNS:
            self.tells(None, Pair(sign, ONE, ONE))

    def test_named_turned_before(self):
        for name, beat in BEATS.items():
            self.tells(beat, Named(name))
            self.tells(beat, Turned(Named(name)))
            self.tells(beat, Before(Named(name)))

    def test_pairs(self):
        for sign in SIGNS:
            self.tells((), Pair(sign, A, B))
            self.tells(("c",), Pair(sign, XC, YC))
            self.tells(("c",), Pair(sign, XC, ONE))
            self.tells(("c",), Pair(sign, ONE, XC))
            self.tells((), Pair(sign, ONE, A))
            self.refuses(Pair(sign, A, XC), (), ("c",))
            self.refuses(Pair(sign, XC, A), ("c",), ())
            self.refuses(Pair(sign, XC, XD), ("c",), ("d",))
            self.refuses(Pair(sign, XE, XC), ("c", "e"), ("c",))

    def test_choice(self):
        self.tells(("c",), Choice(XC, YC, XC))
        self.tells(("c",), Choice(XC, ONE, ONE))
        self.tells(("c",), Choice(ONE, XC, ONE))
        self.tells(("c",), Choice(ONE, ONE, XC))
        self.tells((), Choice(A, ONE, B))
        self.refuses(Choice(A, XC, XD), (), ("c",))
        self.refuses(Choice(A, B, XD), (), ("d",))
        self.refuses(Choice(A, ONE, XD), (), ("d",))
        self.refuses(Choice(ONE, XC, XD), ("c",), ("d",))
        self.refuses(Choice(XC, YC, A), ("c",), ())
        self.refuses(Choice(XC, XD, XC), ("c",), ("d",))

    def test_led(self):
        self.tells(("c",), Led(XC, YC))
        self.tells(("c",), Led(ONE, XC))
        self.tells(("c",), Led(XC, ONE))
        self.refuses(Led(A, XC), (), ("c",))
        self.refuses(Led(XD, XC), ("d",), ("c",))

    def test_when(self):
        self.tells(("c",), When(A, "c"))
        self.tells(("d",), When(A, "d"))
        self.tells(("c",), When(ONE, "c"))
        self.tells(("c", "e"), When(XC, "e"))
        self.tells(("c", "e"), When(ONE, "e"))
        self.tells(("c",), When(Named("c"), "c"))
        self.refuses(When(XC, "c"), ("c",), ())
        self.refuses(When(A, "e"), (), ("c",))
        self.refuses(When(XD, "e"), ("d",), ("c",))
        self.refuses(When(XE, "e"), ("c", "e"), ("c",))

    def test_held(self):
        self.tells((), Held(XC, "c"))
        self.tells((), Held(XC, "c", 3))
        self.tells((), Held(ONE, "c"))
        self.tells(("c",), Held(XE, "e"))
        self.tells(("c",), Held(ONE, "e"))
        self.refuses(Held(A, "c"), (), ("c",))
        self.refuses(Held(XD, "c"), ("d",), ("c",))
        self.refuses(Held(XC, "e"), ("c",), ("c", "e"))
        self.refuses(Held(A, "e"), (), ("c", "e"))

    def test_one_in_another(self):
        self.tells((), Held(When(A, "c"), "c"))
        self.tells(("c", "e"), When(When(A, "c"), "e"))
        self.tells((), Held(Held(When(When(A, "c"), "e"), "e"), "c"))
        self.tells((), Pair("+", A, Held(Pair("+", XC, When(B, "c")), "c")))
        self.refuses(Pair("+", A, When(B, "c")), (), ("c",))
        self.refuses(Held(When(A, "d"), "c"), ("d",), ("c",))

    def test_the_place_of_an_inner_one(self):
        for whole in all_kinds(BAD):
            self.refuses(whole, (), ("d",), (place_in(whole, BAD),))
            self.refuses(Turned(whole), (), ("d",), (0, place_in(whole, BAD)))
            self.refuses(Choice(ONE, ONE, whole), (), ("d",), (2, place_in(whole, BAD)))

    def test_the_first_from_the_left(self):
        worse = When(XC, "c")
        self.refuses(Pair("+", BAD, worse), (), ("d",), (0,))
        self.refuses(Pair("+", worse, BAD), ("c",), (), (0,))
        self.refuses(Choice(ONE, BAD, worse), (), ("d",), (1,))
        self.refuses(Choice(ONE, worse, BAD), ("c",), (), (1,))
        self.refuses(Led(Turned(worse), BAD), ("c",), (), (0, 0))

    def test_inner_ones_first(self):
        self.refuses(Choice(A, XC, BAD), (), ("d",), (2,))
        self.refuses(When(When(BAD, "e"), "e"), (), ("d",), (0, 0))
        self.refuses(Held(Held(BAD, "e"), "e"), (), ("d",), (0, 0))
        self.refuses(When(When(A, "e"), "c"), (), ("c",), (0,))
        self.refuses(Pair("+", A, Pair("+", XC, Turned(BAD))), (), ("d",), (1, 1, 0))

    def test_what_is_handed_in_stays(self):
        beats = dict(BEATS)
        Held(When(A, "c"), "c").beat_by(beats, ())
        self.assertEqual(beats, BEATS)
