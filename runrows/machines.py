"""Machines made of sheets, and what runs them."""

from runrows.boxes import shared
from runrows.errors import NoState
from runrows.moves import moves_of
from runrows.names import is_value, value_kind
from runrows.parts import paired
from runrows.plain import need_values


class Machine:
    def __init__(self, sheet, begins, boxes, moves, outs):
        self.sheet = sheet
        self.begins = begins
        self.boxes = boxes
        self.moves = moves
        self.outs = outs


def made(sheet):
    told = moves_of(sheet)
    fewer = shared(told[0], told[1], told[2])
    return Machine(sheet, told[0], fewer[0], fewer[1], fewer[2])


def need_state(machine, state):
    if len(state) != len(machine.begins):
        raise NoState("a value for each memory is due")
    for value, begin in zip(state, machine.begins):
        if not is_value(value) or value_kind(value) != value_kind(begin):
            raise NoState("a value of the memory's kind is due")


def guard_lets(guard, held):
    return guard is None or held[guard] is True


def moved_value(word, looks, held, step):
    if word == "given":
        return looks[0]
    if word == "input":
        return step[looks[0]]
    seen = [held[box] for box in looks]
    if word == "copy":
        return seen[0]
    if word == "not":
        return not seen[0]
    if word == "if":
        return seen[1] if seen[0] else seen[2]
    return paired(word, seen[0], seen[1])


class Running:
    def __init__(self, machine):
        self.machine = machine
        self.memories = machine.begins

    def step(self, values):
        machine = self.machine
        need_values(machine.sheet.inputs, values)
        many = len(machine.begins)
        held = list(self.memories) + [None] * (machine.boxes - many)
        for guard, goal, word, looks in machine.moves:
            if guard_lets(guard, held):
                held[goal] = moved_value(word, looks, held, values)
        self.memories = tuple(held[:many])
        told = {}
        for name, guard, box in machine.outs:
            if guard_lets(guard, held):
                told[name] = held[box]
        return told

    def state(self):
        return self.memories

    def put(self, state):
        need_state(self.machine, state)
        self.memories = tuple(state)
