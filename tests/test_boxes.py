import random
import unittest
from unittest import mock

from runrows.boxes import crowd, shared
from runrows.machines import made
from runrows.moves import moves_of
from runrows.parts import Named, Pair
from runrows.sheets import Input, Row, Sheet
from runrows.texts import read
from tests.helper import exact, letters, sheet_tells
from tests.let_by import any_let_by
from tests.moving import alive_at, looked_at


def sheet_by(text):
    return read(f"module main\n{text}end\n").main()


class Boxes(unittest.TestCase):
    def numbers(self, told, moves, outs):
        """From the boxes of moves_of to those of the shared moves and outs, which are the same but for these."""
        numbers = {}

        def same(box, other):
            if box is None:
                self.assertIsNone(other)
            else:
                self.assertIs(type(other), int)
                self.assertEqual(numbers.setdefault(box, other), other)

        self.assertEqual((len(moves), len(outs)), (len(told[1]), len(told[2])))
        for (guard, goal, word, looks), move in zip(told[1], moves):
            self.assertEqual((word, len(looks)), (move[2], len(move[3])))
            same(guard, move[0])
            same(goal, move[1])
            if looked_at(word, looks):
                for box, other in zip(looks, move[3]):
                    same(box, other)
            else:
                self.assertEqual(exact(looks), exact(move[3]))
        for (name, guard, box), out in zip(told[2], outs):
            self.assertEqual(name, out[0])
            same(guard, out[1])
            same(box, out[2])
        return numbers

    def check(self, told, many, moves, outs):
        """Told of moves_of, and what is shared of it: how many boxes are alive at each place."""
        numbers = self.numbers(told, moves, outs)
        memories = len(told[0])
        for box, other in numbers.items():
            self.assertTrue(box == other if box < memories else memories <= other < many, (box, other))
        alive = [alive_at(*told, place) for place in range(len(told[1]) + 1)]
        for boxes in alive:
            self.assertEqual(len({numbers[box] for box in boxes}), len(boxes))
        self.assertEqual(many, memories + max(len(boxes) for boxes in alive))
        return alive

    def check_sheet(self, sheet):
        told, machine = moves_of(sheet), made(sheet)
        self.assertEqual(exact(machine.begins), exact(told[0]))
        alive = self.check(told, machine.boxes, machine.moves, machine.outs)
        self.assertEqual(exact(shared(*told)), exact((machine.boxes, machine.moves, machine.outs)))
        found = crowd(sheet)
        self.assertIs(type(found), tuple)
        self.assertEqual(len(found), 2)
        self.assertIs(type(found[0]), int)
        self.assertIs(type(found[1]), tuple)
        self.assertEqual(list(found[1]), alive[found[0]])
        self.assertEqual(machine.boxes - len(machine.begins), len(found[1]))
        return found

    def test_one_box(self):
        for text in ("out a\nrow a number = 1\n", "out a\nrow a number = (before a)\n", "in n number\nout n\nrow a number = 2\n"):
            self.assertEqual(len(self.check_sheet(sheet_by(text))[1]), 1)

    def test_one_behind_the_other(self):
        # Each value is looked at once, by the next one: one box does for all of them, but where two are looked at.
        names = letters(80)
        rows = [Row(name, "truth", Named(names[at - 1] if at else "t")) for at, name in enumerate(names)]
        sheet = Sheet("main", [Input("t", "truth")], [names[-1]], rows[::-1])
        self.assertEqual(len(self.check_sheet(sheet)[1]), 1)
        rows = [Row(name, "truth", Pair("and", *[Named(names[at - 1] if at else "t")] * 2)) for at, name in enumerate(names)]
        self.assertEqual(len(self.check_sheet(Sheet("main", [Input("t", "truth")], [names[-1]], rows))[1]), 1)

    def test_several_at_once(self):
        for many in range(1, 9):
            names = letters(many)
            inputs = [Input(name, "number") for name in names]
            sheet = Sheet("main", inputs, names, [Row("z", "number", Named(names[0]))])
            place, boxes = self.check_sheet(sheet)
            self.assertEqual(len(boxes), many)
            self.assertEqual(place, len(moves_of(sheet)[1]))

    def test_a_crowd_in_between(self):
        # Four inputs come to one sum: most boxes are alive ahead of it, not at the end.
        sheet = sheet_by("in a number\nin b number\nin c number\nin d number\nout s\n"
                         "row s number = ((d + c) + (b + a))\n")
        place, boxes = self.check_sheet(sheet)
        self.assertEqual(len(boxes), 4)
        self.assertLess(place, len(moves_of(sheet)[1]))

    def test_guards_are_alive(self):
        # c is looked at as a guard alone, up to the end.
        sheet = sheet_by("in c truth\nin n number\nout k\nrow k number on c = 3\n")
        told = moves_of(sheet)
        guard = told[2][0][1]
        self.assertIn(guard, alive_at(*told, len(told[1])))
        self.assertEqual(len(self.check_sheet(sheet)[1]), 2)

    def test_shared_by_itself(self):
        # 2 and 3 are looked at last by the move that writes 4; 5 is written twice, and the guard of the end.
        begins = (7, True)
        moves = (
            (None, 2, "input", (5,)), (None, 3, "given", (2,)), (None, 4, "+", (2, 3)), (None, 5, "given", (False,)),
            (1, 5, "copy", (1,)), (5, 0, "copy", (4,)), (None, 6, "<", (0, 4)), (5, 7, "not", (6,)), (None, 1, "given", (3,)),
        )
        outs = (("a", 5, 7), ("b", None, 6))
        told = (begins, moves, outs)
        many, fewer, ends = shared(*told)
        self.assertEqual(many, 5)
        self.check(told, many, fewer, ends)
        self.assertEqual(fewer[0][3], (5,))
        self.assertEqual(fewer[-1], (None, 1, "given", (3,)))

    def test_shared_of_boxes_with_any_numbers(self):
        moves = ((None, 9, "given", (True,)), (9, 4, "given", (1,)), (None, 20, "not", (9,)))
        told = ((), moves, (("a", None, 20), ("b", 9, 4)))
        many, fewer, ends = shared(*told)
        self.assertEqual(many, 3)
        self.check(told, many, fewer, ends)

    def test_without_boxes_beside_the_memories(self):
        self.assertEqual(shared((), (), ()), (0, (), ()))
        moves = ((None, 0, "given", (4,)), (1, 0, "copy", (0,)))
        told = ((3, True), moves, (("a", 1, 0),))
        self.assertEqual(exact(shared(*told)), exact((2, moves, (("a", 1, 0),))))
        # By the moves that are chosen each output has such a box; so others are put in their place.
        with mock.patch("runrows.boxes.moves_of", lambda sheet: told):
            self.assertEqual(exact(crowd(sheet_by("out a\nrow a number = 1\n"))), exact((0, ())))

    def test_what_is_handed_in_stays(self):
        sheet = any_let_by(random.Random(5))
        told = sheet_tells(sheet)
        handed = moves_of(sheet)
        before = exact(handed)
        begins, moves, outs = handed
        self.assertEqual(exact(shared(begins=begins, moves=moves, outs=outs)), exact(shared(*handed)))
        self.assertEqual(exact(handed), before)
        self.assertEqual(exact(crowd(sheet=sheet)), exact(crowd(sheet)))
        self.assertEqual(sheet_tells(sheet), told)

    def test_any_sheets(self):
        sizes = {}
        for seed in range(300):
            place, boxes = self.check_sheet(any_let_by(random.Random(seed)))
            sizes[len(boxes)] = True
        self.assertGreater(len(sizes), 8)

    def test_deeper_parts(self):
        for seed in range(100):
            self.check_sheet(any_let_by(random.Random(seed), 4, "a b c d e f".split()))
