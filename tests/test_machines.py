import itertools
import random
import unittest

from runrows.errors import NoInput, NoState
from runrows.machines import Machine, Running, made
from runrows.plain import plain
from runrows.texts import read
from tests.helper import exact, refused, sheet_tells
from tests.let_by import any_let_by, any_steps
from tests.moving import run_moves
from tests.streams import Streams

COUNTS = """\
in up -9..9
in go truth
in name number on go
out total
out name
out go
out last
row total number = ((before total 5) + up)
row some truth = (no then (not (before some)))
row last number on some = ((name held go 7) when some)
"""
STEPS = [(1, True, 30), (2, False, 40), (-3, False, 50), (9, True, 60), (0, True, 70), (0, False, 80)]
NO_VALUES = (None, "", "1", 1.0, 128, -129, 10 ** 20, [], [1], (), (1,), {}, object(), float("nan"), int)


def sheet_by(text):
    return read(f"module main\n{text}end\n").main()


def outputs_of(sheet, steps):
    """What plain tells of the outputs, as lists of pairs, in order."""
    return [[(name, now[name]) for name in sheet.outputs if name in now] for now in plain(sheet, steps)]


class Made(unittest.TestCase):
    def test_fields(self):
        sheet = sheet_by(COUNTS)
        machine = made(sheet)
        self.assertIs(type(machine), Machine)
        self.assertIs(machine.sheet, sheet)
        self.assertIs(type(machine.boxes), int)
        for field in (machine.begins, machine.moves, machine.outs):
            self.assertIs(type(field), tuple)
        self.assertEqual(exact(machine.begins), exact((5, True, False, 7)))
        self.assertEqual([out[0] for out in machine.outs], ["total", "name", "go", "last"])

    def test_moves_done_as_they_stand(self):
        sheet = sheet_by(COUNTS)
        machine = made(sheet=sheet)
        told = run_moves(machine.begins, machine.moves, machine.outs, STEPS)
        self.assertEqual(exact([pairs for pairs, memories in told]), exact(outputs_of(sheet, STEPS)))

    def test_the_sheet_stays(self):
        sheet = sheet_by(COUNTS)
        told = sheet_tells(sheet)
        running = Running(made(sheet))
        for step in STEPS:
            running.step(step)
        self.assertEqual(sheet_tells(sheet), told)

    def test_any_sheets(self):
        for seed in range(300):
            chance = random.Random(seed)
            sheet = any_let_by(chance)
            steps = any_steps(chance, sheet, 10)
            machine, streams = made(sheet), Streams(sheet, steps)
            told = run_moves(machine.begins, machine.moves, machine.outs, steps)
            self.assertEqual(exact([pairs for pairs, memories in told]), exact(outputs_of(sheet, steps)))
            states = [streams.state(at) for at in range(len(steps) + 1)]
            self.assertEqual(exact(states), exact([machine.begins] + [memories for pairs, memories in told]))


class Runs(unittest.TestCase):
    def test_what_plain_tells(self):
        sheet = sheet_by(COUNTS)
        running = Running(made(sheet))
        for step, expected in zip(STEPS, outputs_of(sheet, STEPS), strict=True):
            told = running.step(step)
            self.assertIs(type(told), dict)
            self.assertEqual(exact(list(told.items())), exact(expected))

    def test_outputs_that_come(self):
        running = Running(made(sheet_by(COUNTS)))
        self.assertEqual([running.step(step) for step in STEPS[:4]], [
            {"total": 6, "name": 30, "go": True}, {"total": 8, "go": False, "last": 30}, {"total": 5, "go": False},
            {"total": 14, "name": 60, "go": True, "last": 60},
        ])

    def test_lines_in_any_order(self):
        lines = ["row a number = (n + b)\n", "row b number = ((before a) * d)\n", "row d number = (if c 2 (before n 1))\n",
                 "row e number on c = ((a - b) when c)\n"]
        steps = [(1, True), (2, False), (3, False), (4, True), (5, True)]
        found = []
        for some in itertools.permutations(lines):
            running = Running(made(sheet_by("in n number\nin c truth\nout e\nout a\nout b\n" + "".join(some))))
            found.append([list(running.step(step).items()) for step in steps])
        self.assertEqual(found, [found[0]] * len(found))
        self.assertEqual(found[0][0], [("e", 1), ("a", 1), ("b", 0)])

    def test_no_output_comes(self):
        sheet = sheet_by("in c truth\nin d truth on c\nout k\nout d\nrow k number on d = (1 + (before k))\n")
        running = Running(made(sheet))
        self.assertEqual([running.step(step) for step in [(False, True), (True, False), (True, True), (False, False)]],
                         [{}, {"d": False}, {"k": 1, "d": True}, {}])

    def test_without_inputs(self):
        running = Running(made(sheet_by("out a\nrow a number = ((before a 125) + 1)\n")))
        self.assertEqual([running.step(step) for step in ((), [], (), [])], [{"a": 126}, {"a": 127}, {"a": -128}, {"a": -127}])

    def test_lists_and_tuples(self):
        first, second = Running(made(sheet_by(COUNTS))), Running(made(sheet_by(COUNTS)))
        for step in STEPS:
            handed = list(step)
            self.assertEqual(first.step(values=handed), second.step(step))
            self.assertEqual(handed, list(step))
            handed.clear()
        self.assertEqual(first.state(), second.state())

    def test_the_machine(self):
        machine = made(sheet_by(COUNTS))
        running = Running(machine=machine)
        self.assertIs(running.machine, machine)
        fields = exact((machine.begins, machine.boxes, machine.moves, machine.outs))
        for step in STEPS:
            running.step(step)
        running.put(running.state())
        self.assertIs(running.machine, machine)
        self.assertEqual(exact((machine.begins, machine.boxes, machine.moves, machine.outs)), fields)

    def test_two_that_run_one_machine(self):
        machine = made(sheet_by(COUNTS))
        expected = outputs_of(machine.sheet, STEPS)
        first = Running(machine)
        for step in STEPS[:3]:
            first.step(step)
        second = Running(machine)
        self.assertEqual(second.state(), machine.begins)
        for at, step in enumerate(STEPS[3:]):
            self.assertEqual(list(second.step(STEPS[at]).items()), expected[at])
            self.assertEqual(list(first.step(step).items()), expected[at + 3])

    def test_a_step_that_is_refused(self):
        sheet = sheet_by(COUNTS)
        expected = outputs_of(sheet, STEPS)
        running = Running(made(sheet))
        for step, pairs in zip(STEPS, expected, strict=True):
            state = running.state()
            for bad in ((), step[:2], step + (1,), (10,) + step[1:], (-10,) + step[1:], (True,) + step[1:],
                        step[:1] + (1,) + step[2:], step[:2] + (None,), step[:2] + (128,), step[:2] + (False,), [None] * 3):
                refused(self, NoInput, running.step, bad)
                refused(self, NoInput, running.step, list(bad))
                self.assertEqual(exact(running.state()), exact(state))
            self.assertEqual(exact(list(running.step(step).items())), exact(pairs))

    def test_dicts_of_ones_own(self):
        running = Running(made(sheet_by(COUNTS)))
        first = running.step(STEPS[0])
        first["total"] = 100
        first["last"] = None
        second = running.step(STEPS[1])
        self.assertEqual(second, {"total": 8, "go": False, "last": 30})
        self.assertEqual(first, {"total": 100, "name": 30, "go": True, "last": None})
        second.clear()
        self.assertEqual(running.step(STEPS[2]), {"total": 5, "go": False})

    def test_any_sheets(self):
        for seed in range(300):
            chance = random.Random(seed)
            sheet = any_let_by(chance)
            steps = any_steps(chance, sheet, 10)
            running, streams = Running(made(sheet)), Streams(sheet, steps)
            for at, expected in enumerate(outputs_of(sheet, steps)):
                self.assertEqual(exact(running.state()), exact(streams.state(at)))
                self.assertEqual(exact(list(running.step(steps[at]).items())), exact(expected))
            self.assertEqual(exact(running.state()), exact(streams.state(len(steps))))


class States(unittest.TestCase):
    def test_at_first(self):
        for text, begins in ((COUNTS, (5, True, False, 7)), ("out a\nrow a number = 1\n", ()),
                             ("out a\nrow a truth = (before a)\n", (False,))):
            running = Running(made(sheet_by(text)))
            self.assertIs(type(running.state()), tuple)
            self.assertEqual(exact(running.state()), exact(begins))
            self.assertEqual(exact(running.state()), exact(running.machine.begins))

    def test_behind_steps(self):
        running = Running(made(sheet_by(COUNTS)))
        found = []
        for step in STEPS[:4]:
            running.step(step)
            found.append(running.state())
            self.assertIs(type(found[-1]), tuple)
        self.assertEqual(exact(found), exact([(6, False, False, 30), (8, False, True, 30), (5, False, False, 30),
                                              (14, False, True, 60)]))

    def test_put_back_and_gone_on_from(self):
        for seed in range(60):
            chance = random.Random(seed)
            sheet = any_let_by(chance)
            steps = any_steps(chance, sheet, 8)
            machine, expected = made(sheet), outputs_of(sheet, steps)
            running, states = Running(machine), []
            for step in steps:
                states.append(running.state())
                running.step(step)
            for at in (5, 0, 2, 7):
                for other, state in ((running, states[at]), (Running(machine), list(states[at]))):
                    self.assertIsNone(other.put(state))
                    self.assertEqual(exact(other.state()), exact(states[at]))
                    for step, pairs in zip(steps[at:], expected[at:], strict=True):
                        self.assertEqual(exact(list(other.step(step).items())), exact(pairs))

    def test_a_state_that_no_run_comes_to(self):
        running = Running(made(sheet_by(COUNTS)))
        running.put((-128, True, True, 127))
        self.assertEqual(running.step((-1, False, 0)), {"total": 127, "go": False})
        running.put([-128, False, False, 127])
        self.assertEqual(running.step((-1, False, 0)), {"total": 127, "go": False, "last": 127})
        self.assertEqual(exact(running.state()), exact((127, False, True, 127)))

    def test_a_list_that_is_changed_later(self):
        running = Running(made(sheet_by(COUNTS)))
        state = [1, False, True, 2]
        running.put(state=state)
        self.assertEqual(state, [1, False, True, 2])
        state[0] = 50
        state.append(None)
        self.assertEqual(exact(running.state()), exact((1, False, True, 2)))
        self.assertIs(type(running.state()), tuple)
        self.assertEqual(running.step((0, False, 0)), {"total": 1, "go": False})

    def test_no_state(self):
        good = (5, False, True, 30)
        bad = [(), good[:3], good[1:], good + (1,), good + (None,), good * 2, good[2:] + good[:2], good[1:] + good[:1], (True,) + good[1:], (False,) * 4,
               (1,) * 4, (5, 0, True, 30), (5, False, 1, 30), (5, False, True, True), [None] * 4, [list(good)], (good,)]
        for at in range(4):
            for value in NO_VALUES:
                bad.append(good[:at] + (value,) + good[at + 1:])
        running = Running(made(sheet_by(COUNTS)))
        for step in STEPS[:2]:
            running.step(step)
        state = running.state()
        for one in bad:
            for handed in (tuple(one), list(one)):
                refused(self, NoState, running.put, handed)
                self.assertEqual(exact(running.state()), exact(state))
        self.assertEqual(running.step(STEPS[2]), {"total": 5, "go": False})
        running.put(good)
        self.assertEqual(exact(running.state()), exact(good))

    def test_no_state_of_a_machine_without_memories(self):
        running = Running(made(sheet_by("in n number\nout n\nrow a number = n\n")))
        for state in ((), []):
            self.assertIsNone(running.put(state))
            self.assertEqual(running.state(), ())
        for state in ((0,), [None], ((),), [True]):
            refused(self, NoState, running.put, state)

    def test_ends_of_numbers(self):
        running = Running(made(sheet_by("out a\nrow a number = (before a)\n")))
        for value in (-128, 127, 0, 1):
            running.put((value,))
            self.assertEqual(running.step(()), {"a": value})
        for value in (-129, 128, True, False):
            refused(self, NoState, running.put, (value,))
