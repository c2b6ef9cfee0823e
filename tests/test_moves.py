import random
import unittest

from runrows.moves import moves_of
from runrows.parts import Given, Named, Pair
from runrows.plain import plain
from runrows.sheets import Input, Row, Sheet
from runrows.texts import read
from runrows.timed import Before, Held, Led
from tests.helper import SIGNS, exact, letters, sheet_tells
from tests.let_by import any_let_by, any_steps
from tests.moving import looked_at, looks_at, run_moves
from tests.streams import Streams

LOOKS = {"given": 1, "input": 1, "copy": 1, "not": 1, "if": 3}


def sheet_by(text):
    return read(f"module main\n{text}end\n").main()


class Moves(unittest.TestCase):
    def check_form(self, sheet, told):
        """That these are begins, moves and outs of their kinds, whatever moves are chosen."""
        self.assertIs(type(told), tuple)
        begins, moves, outs = told
        for one in (begins, moves, outs):
            self.assertIs(type(one), tuple)
        for move in moves:
            self.assertIs(type(move), tuple)
            guard, goal, word, looks = move
            self.assertTrue(guard is None or (type(guard) is int and guard >= 0))
            self.assertTrue(type(goal) is int and goal >= 0)
            self.assertIn(word, tuple(LOOKS) + SIGNS)
            self.assertIs(type(looks), tuple)
            self.assertEqual(len(looks), LOOKS.get(word, 2))
            if word == "input":
                self.assertIn(looks[0], range(len(sheet.inputs)))
            for box in looked_at(word, looks):
                self.assertIs(type(box), int)
        self.assertEqual([out[0] for out in outs], list(sheet.outputs))
        for out in outs:
            self.assertIs(type(out), tuple)
            self.assertEqual(len(out), 3)

    def check_boxes(self, told):
        """All writes to a box that is no memory are ahead of all looks at it, and there is one of each."""
        begins, moves, outs = told
        looks, writes = {}, {}
        for box, at in looks_at(moves, outs):
            looks.setdefault(box, []).append(at)
        for at, move in enumerate(moves):
            writes.setdefault(move[1], []).append(at)
        boxes = [box for box in {**looks, **writes} if box >= len(begins)]
        for box in boxes:
            self.assertIn(box, looks)
            self.assertIn(box, writes)
            self.assertLess(max(writes[box]), min(looks[box]))

    def check_run(self, sheet, steps):
        """Outs and memories at each step, none of them by a look at a blank box."""
        told = moves_of(sheet)
        self.check_form(sheet, told)
        self.check_boxes(told)
        streams, values = Streams(sheet, steps), plain(sheet, steps)
        self.assertEqual(exact(told[0]), exact(streams.state(0)))
        for at, (pairs, memories) in enumerate(run_moves(*told, steps)):
            expected = [(name, values[at][name]) for name in sheet.outputs if name in values[at]]
            self.assertEqual(exact(pairs), exact(expected))
            self.assertEqual(exact(memories), exact(streams.state(at + 1)))
        return told

    def test_one_row(self):
        for value in (True, False, 0, 1, -128):
            kind = "truth" if isinstance(value, bool) else "number"
            told = moves_of(Sheet("main", [], ["a"], [Row("a", kind, Given(value))]))
            self.assertEqual(exact(told), exact(((), ((None, 0, "given", (value,)),), (("a", None, 0),))))

    def test_first_values_in_the_order_of_lines_then_of_places(self):
        for text, expected in (
            ("out a\nrow a number = 1\n", ()),
            ("out a\nrow a number = (before a)\n", (0,)),
            ("out a\nrow a truth = (before a)\n", (False,)),
            ("out a\nrow a truth = (before a yes)\n", (True,)),
            ("out a\nrow a number = (1 then 2)\n", (True,)),
            ("out a\nrow a number = ((before 1 4) then (before (before 1 5) 6))\n", (True, 4, 6, 5)),
            ("out a\nrow a number = (before (before (before 1 4) 5) 6)\n", (6, 5, 4)),
            ("in c truth\nout a\nrow a number = ((1 held c 4) + ((2 held c) + (before (3 held c 9) 8)))\n", (4, 0, 8, 9)),
            ("in c truth\nout b\nrow b number = a\nrow a number = (before 1 2)\nrow d number = (before b 3)\n", (2, 3)),
            ("in c truth\nout b\nrow b number = (before 1 9)\nrow a truth = (before c)\nrow d truth = (yes held c)\n",
             (9, False, False)),
            ("out c\nrow a number = (before (if (before c) (before 1 1) (2 then 3)) 7)\nrow c truth = (no then yes)\n",
             (7, False, 1, True, True)),
        ):
            self.assertEqual(exact(moves_of(sheet_by(text))[0]), exact(expected), text)

    def test_lines_in_another_order_than_values_are_worked_out(self):
        text = "in n number\nout c\nrow c number = (b + (before b 1))\nrow b number = (a + (before a 2))\n" \
               "row a number = (n + (before n 3))\n"
        begins, moves, outs = self.check_run(sheet_by(text), [(1,), (5,), (-7,), (100,)])
        self.assertEqual(begins, (1, 2, 3))

    def test_what_nothing_looks_at(self):
        # Only b and n are looked at in the end: no move for the other input, nor for the other rows.
        sheet = sheet_by("in n number\nin m number\nout b\nrow a number = (m + c)\nrow b number = (n - 1)\n"
                         "row c number = (m * 2)\nrow d truth on e = (f < 3)\nrow e truth = (m < 2)\n"
                         "row f number on e = (m when e)\n")
        told = self.check_run(sheet, [(1, 2), (3, 4)])
        self.assertEqual(sorted({move[2] for move in told[1]}), ["-", "given", "input"])
        self.assertEqual([move[3] for move in told[1] if move[2] == "input"], [(0,)])

    def test_memories_at_which_nothing_looks(self):
        sheet = sheet_by("in n number\nin c truth\nout b\nrow a number = (before (n + 1))\nrow b number = 4\n"
                         "row d number = ((n when c) held c)\nrow e number on c = (1 then 2)\n")
        told = self.check_run(sheet, [(1, False), (2, True), (3, False)])
        self.assertEqual(told[0], (0, 0, True))
        states = [memories for pairs, memories in run_moves(*told, [(1, False), (2, True), (3, False)])]
        self.assertEqual(states, [(2, 0, True), (3, 2, False), (4, 2, False)])

    def test_memories_that_look_at_one_another(self):
        # Each is to have what the other one had, so none may be changed ahead of the look at it.
        sheet = sheet_by("out a\nout b\nrow a number = (before b 1)\nrow b number = (before c 2)\nrow c number = (before a 3)\n")
        told = self.check_run(sheet, [()] * 5)
        self.assertEqual([memories for pairs, memories in run_moves(*told, [()] * 3)], [(2, 3, 1), (3, 1, 2), (1, 2, 3)])
        sheet = sheet_by("in n number\nout a\nrow a number = (before (before (before (before n 1) 2) 3) 4)\n")
        self.check_run(sheet, [(at,) for at in range(10, 18)])

    def test_guards(self):
        sheet = sheet_by("in c truth\nin d truth on c\nin n number on d\nout n\nout c\nout k\nrow k number on d = (n + 1)\n")
        steps = [(c, d, 5) for c in (True, False) for d in (True, False)]
        told = self.check_run(sheet, steps)
        outs = {name: guard for name, guard, box in told[2]}
        self.assertIsNone(outs["c"])
        self.assertIsNotNone(outs["n"])
        self.assertIsNotNone(outs["k"])
        self.assertEqual([pairs for pairs, memories in run_moves(*told, steps)],
                         [[("n", 5), ("c", True), ("k", 6)], [("c", True)], [("c", False)], [("c", False)]])

    def test_no_more_guards_than_are_due(self):
        # What comes at each step is a guard itself; of the others each has one box, for all that look at it.
        sheet = sheet_by("in c truth\nin d truth on c\nin e number on c\nout c\nout d\nout e\nout k\nout l\nout m\n"
                         "row k number on d = 1\nrow l number on d = 2\nrow m number on c = (before (k held d))\n")
        begins, moves, outs = self.check_run(sheet, [(c, d, 5) for c in (True, False) for d in (True, False)])
        guards, boxes = {out[0]: out[1] for out in outs}, {out[0]: out[2] for out in outs}
        for name in "dem":
            self.assertEqual(guards[name], boxes["c"])
        self.assertEqual(guards["k"], guards["l"])
        self.assertNotIn(guards["k"], boxes.values())
        self.assertEqual(len([move for move in moves if move[2:] == ("given", (False,))]), 1)

    def test_ons_of_ons_of_ons(self):
        names = letters(40)
        inputs = [Input(name, "truth", names[at - 1] if at else None) for at, name in enumerate(names[:8])]
        rows = []
        for at, name in enumerate(names[8:], start=8):
            rows.append(Row(name, "truth", Given(at % 30 != 29), names[at - 1]))
        last = Row("z", "number", Pair("+", Before(Named("z"), 1), Given(1)), names[-1])
        for lines in (rows + [last], [last] + rows[::-1]):
            sheet = Sheet("main", inputs, [names[0], names[20], names[29], names[30], "z"], lines)
            steps = [(True,) * 8, (True,) * 7 + (False,), (False,) * 8, (True,) * 8]
            told = self.check_run(sheet, steps)
            self.assertEqual([len(pairs) for pairs, memories in run_moves(*told, steps)], [3, 1, 1, 3])

    def test_eighty_eight_names_of_one_on_another(self):
        # All come, the last one only where all the others are True.
        names = letters(88)
        inputs = [Input(name, "truth", names[at - 1] if at else None) for at, name in enumerate(names[:8])]
        rows = [Row(name, "truth", Given(True), names[at - 1]) for at, name in enumerate(names) if at >= 8]
        for lines in (rows, rows[::-1]):
            told = self.check_run(Sheet("main", inputs, [names[-1], names[0]], lines), [(True,) * 8, (True, False) * 4])
        self.assertEqual([pairs for pairs, memories in run_moves(*told, [(True,) * 8])],
                         [[(names[-1], True), (names[0], True)]])

    def test_held_and_when_within_one_another(self):
        sheet = sheet_by(
            "in c truth\nin d truth\nin n number\nin e truth on c\nout k\nout l\nout m\nout o\n"
            "row k number on d = (((n when c) held c -1) when d)\n"
            "row l number on c = (((n when c) when e) held e 5)\n"
            "row m number on e = (((before (1 then (n - 1)) 9) when c) when e)\n"
            "row o truth = (before ((before (not e) yes) held c) yes)\n")
        for seed in range(20):
            self.check_run(sheet, any_steps(random.Random(seed), sheet, 12))

    def test_the_largest_sheet(self):
        names = letters(80)
        rows = []
        for at, name in enumerate(names):
            part = Named(names[at - 1]) if at else Named("n")
            for many in range(3):
                part = Pair("+", part, Before(Led(Held(Given(many), "c"), Named(name)), many))
            rows.append(Row(name, "number", part))
        sheet = Sheet("main", [Input("n", "number"), Input("c", "truth")], names[-8:], rows[::-1])
        told = self.check_run(sheet, [(1, False), (2, True), (3, False)])
        self.assertEqual(len(told[0]), 80 * 9)

    def test_an_input_that_is_an_output(self):
        sheet = sheet_by("in n number\nin c truth\nin m number on c\nout m\nout n\nout c\nrow a truth = c\n")
        steps = [(4, True, 5), (6, False, 7)]
        told = self.check_run(sheet, steps)
        self.assertEqual([pairs for pairs, memories in run_moves(*told, steps)],
                         [[("m", 5), ("n", 4), ("c", True)], [("n", 6), ("c", False)]])

    def test_each_name_has_a_box_of_its_own(self):
        sheet = sheet_by("in n number\nin c truth\nout n\nout a\nout b\nout d\nout e\nout f\nrow a number = n\nrow b number = a\n"
                         "row d number = (before a)\nrow e number = ((n when c) held c)\nrow f number = e\n")
        begins, moves, outs = self.check_run(sheet, [(1, True), (2, False)])
        boxes = [box for name, guard, box in outs]
        self.assertEqual(len(set(boxes)), 6)
        self.assertGreaterEqual(min(boxes), len(begins))

    def test_the_same_in_whatever_order_it_is_asked(self):
        sheet = any_let_by(random.Random(3))
        told = sheet_tells(sheet)
        self.assertEqual(exact(moves_of(sheet)), exact(moves_of(sheet=sheet)))
        self.assertEqual(sheet_tells(sheet), told)

    def test_any_sheets(self):
        moves, memories = 0, 0
        for seed in range(400):
            chance = random.Random(seed)
            sheet = any_let_by(chance)
            told = self.check_run(sheet, any_steps(chance, sheet, 12))
            moves += len([move for move in told[1] if move[0] is not None])
            memories += len(told[0])
        self.assertGreater(moves, 1000)
        self.assertGreater(memories, 1000)

    def test_deeper_parts(self):
        for seed in range(150):
            chance = random.Random(seed)
            sheet = any_let_by(chance, 4, "a b c d e f".split())
            self.check_run(sheet, any_steps(chance, sheet, 12))
