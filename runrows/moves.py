"""The moves by which a machine does a step of a sheet, with a box of its own for each value."""

from runrows.kinds import filled
from runrows.orders import order
from runrows.parts import Given, Named
from runrows.plain import need_let_by
from runrows.sheets import Input
from runrows.timed import Before, Held, Led, When


def moves_of(sheet):
    need_let_by(sheet)
    plan = Plan(filled(sheet))
    for name in order(sheet):
        plan.add_line(plan.found[name])
    plan.add_befores()
    outs = [(name, plan.guard_of(name), plan.held_in[name]) for name in sheet.outputs]
    many = len(plan.firsts)
    moves = needed(plan.done, outs, many)
    numbers = numbers_by_goals(moves, many)
    return (tuple(plan.firsts), moves_with(moves, numbers), outs_with(outs, numbers))


def memories_in(part, spot):
    # A part stands ahead of those within it, so the places rise as tuples do.
    found = []
    if isinstance(part, Led):
        found.append((spot, True))
    if isinstance(part, Before) or isinstance(part, Held):
        found.append((spot, part.first))
    for at, inner in enumerate(part.inner()):
        found.extend(memories_in(inner, spot + (at,)))
    return found


class Plan:
    # A spot is a row's name and behind it a place in the row's part, as one tuple.
    def __init__(self, sheet):
        self.found = sheet.lines_by_name()
        self.numbers = {}
        for at, line in enumerate(sheet.inputs):
            self.numbers[line.name] = at
        self.firsts = []
        self.memories = {}
        for row in sheet.lines:
            for spot, first in memories_in(row.part, (row.name,)):
                self.memories[spot] = len(self.firsts)
                self.firsts.append(first)
        self.many = len(self.firsts)
        self.done = []
        self.held_in = {}
        self.truths = {}
        self.waiting = []

    def write(self, guard, goal, word, looks):
        self.done.append((guard, goal, word, looks))

    def write_new(self, guard, word, looks):
        goal = self.many
        self.many = goal + 1
        self.write(guard, goal, word, looks)
        return goal

    def guard_of(self, name):
        on = self.found[name].on
        return None if on is None else self.truth_of(on)

    def truth_of(self, name):
        if name not in self.truths:
            self.truths[name] = self.box_never_blank(name)
        return self.truths[name]

    def box_never_blank(self, name):
        guard = self.guard_of(name)
        if guard is None:
            return self.held_in[name]
        # Where the name does not come its own box is blank; here False stands for that.
        box = self.write_new(None, "given", (False,))
        self.write(guard, box, "copy", (self.held_in[name],))
        return box

    def add_line(self, line):
        guard = self.guard_of(line.name)
        if isinstance(line, Input):
            box = self.write_new(guard, "input", (self.numbers[line.name],))
        else:
            box = self.box_of(line.part, (line.name,), guard)
            # A memory changes ahead of the step's end, and no other name's box is this one's own.
            if box < len(self.firsts) or box in list(self.held_in.values()):
                box = self.write_new(guard, "copy", (box,))
        self.held_in[line.name] = box

    def add_befores(self):
        # A Before within another waits till the outer one has looked at its memory.
        while len(self.waiting) > 0:
            due = self.waiting
            self.waiting = []
            for part, spot, guard in due:
                box = self.box_of(part.part, spot + (0,), guard)
                self.write(guard, self.memories[spot], "copy", (box,))

    def box_of(self, part, spot, guard):
        # The guard is for the steps at which the part comes; there its box holds its worth.
        if isinstance(part, Given):
            return self.write_new(guard, "given", (part.value,))
        if isinstance(part, Named):
            return self.held_in[part.name]
        if isinstance(part, When):
            return self.box_of(part.part, spot + (0,), self.guard_of(part.name))
        if isinstance(part, Before):
            self.waiting.append((part, spot, guard))
            return self.memories[spot]
        if isinstance(part, Held):
            return self.box_of_held(part, spot)
        inner = [self.box_of(one, spot + (at,), guard) for at, one in enumerate(part.inner())]
        if isinstance(part, Led):
            return self.box_of_led(inner, spot, guard)
        return self.write_new(guard, part.told()[0], tuple(inner))

    def box_of_held(self, part, spot):
        # What is held is what the memory holds, once this step's value has been put there.
        guard = self.truth_of(part.name)
        box = self.box_of(part.part, spot + (0,), guard)
        self.write(guard, self.memories[spot], "copy", (box,))
        return self.memories[spot]

    def box_of_led(self, inner, spot, guard):
        memory = self.memories[spot]
        box = self.write_new(guard, "if", (memory, inner[0], inner[1]))
        self.write(guard, memory, "given", (False,))
        return box


def looks_of_move(move):
    found = [] if move[0] is None else [move[0]]
    if has_boxes(move[2]):
        found.extend(move[3])
    return found


def has_boxes(word):
    return word not in ("given", "input")


def looks_of_outs(outs):
    found = []
    for name, guard, box in outs:
        found.append(box)
        if guard is not None:
            found.append(guard)
    return found


def needed(moves, outs, many):
    looked_at = {}
    for box in looks_of_outs(outs):
        looked_at[box] = True
    found = []
    # From the end on, all looks at a box are met ahead of the writes to it.
    for move in reversed(moves):
        if move[1] < many or move[1] in looked_at:
            found.append(move)
            for box in looks_of_move(move):
                looked_at[box] = True
    return list(reversed(found))


def numbers_by_goals(moves, many):
    numbers = {}
    for box in range(many):
        numbers[box] = box
    for move in moves:
        numbers[move[1]] = numbers.get(move[1], len(numbers))
    return numbers


def guard_with(guard, numbers):
    return None if guard is None else numbers[guard]


def moves_with(moves, numbers):
    found = []
    for guard, goal, word, looks in moves:
        seen = tuple([numbers[box] for box in looks]) if has_boxes(word) else looks
        found.append((guard_with(guard, numbers), numbers[goal], word, seen))
    return tuple(found)


def outs_with(outs, numbers):
    return tuple([(name, guard_with(guard, numbers), numbers[box]) for name, guard, box in outs])
