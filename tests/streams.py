"""What the names of a sheet come to, told once more: by looking back over the steps, without memories.

A Before is what its part was when it came last ahead of now; a Led is its rest where it came ahead; a Held is what its
part was when it came last, now or ahead."""

from runrows.kinds import filled

SIGNS = {
    "+": lambda one, other: (one + other + 128) % 256 - 128,
    "-": lambda one, other: (one - other + 128) % 256 - 128,
    "*": lambda one, other: (one * other + 128) % 256 - 128,
    "=": lambda one, other: one == other,
    "<": lambda one, other: one < other,
    "<=": lambda one, other: one <= other,
    "and": lambda one, other: one and other,
    "or": lambda one, other: one or other,
}


class Streams:
    def __init__(self, sheet, steps):
        self.sheet = sheet
        self.lines = {line.name: line for line in sheet.inputs + sheet.lines}
        self.told = {row.name: row.part.told() for row in filled(sheet).lines}
        self.inputs = {line.name: at for at, line in enumerate(sheet.inputs)}
        self.steps = steps
        self.known = {}

    def comes(self, name, at):
        on = self.lines[name].on
        return on is None or self.is_true(on, at)

    def is_true(self, name, at):
        return self.comes(name, at) and self.value(name, at)

    def value(self, name, at):
        if name in self.inputs:
            return self.steps[at][self.inputs[name]]
        return self.worth((name,), self.told[name], at)

    def came(self, spot, at):
        """Whether the part at a spot, a name and a place behind it, comes at a step."""
        told, test, name = self.told[spot[0]], self.comes, spot[0]
        for one in spot[1:]:
            if told[0] in ("when", "held"):
                test, name = self.comes if told[0] == "when" else self.is_true, told[2]
            told = told[1 + one]
        return test(name, at)

    def worth(self, spot, told, at):
        if (spot, at) not in self.known:
            self.known[(spot, at)] = self.worked_out(spot, told, at)
        return self.known[(spot, at)]

    def last(self, spot, told, before, first):
        """What a part was when it came last ahead of a step."""
        for at in reversed(range(before)):
            if self.came(spot, at):
                return self.worth(spot, told, at)
        return first

    def worked_out(self, spot, told, at):
        word = told[0]
        if word == "given":
            return told[1]
        if word == "named":
            return self.value(told[1], at)
        if word == "before":
            return self.last(spot + (0,), told[1], at, told[2])
        if word == "held":
            return self.last(spot + (0,), told[1], at + 1, told[3])
        if word == "then":
            which = int(any(self.came(spot, one) for one in range(at)))
            return self.worth(spot + (which,), told[1 + which], at)
        inner = [self.worth(spot + (one,), told[1 + one], at) for one in range(len(told) - 1 - (word == "when"))]
        if word == "when":
            return inner[0]
        if word == "not":
            return not inner[0]
        if word == "if":
            return inner[1] if inner[0] else inner[2]
        return SIGNS[word](*inner)

    def values(self):
        """For each step a dict from all names that come in it, in order, to their values."""
        return [{name: self.value(name, at) for name in self.lines if self.comes(name, at)}
                for at in range(len(self.steps))]

    def spots(self):
        """The spots of all memories and what is told there, in the order of lines, then of places."""
        found = []
        for row in self.sheet.lines:
            found += sorted((spot, told) for spot, told in within((row.name,), self.told[row.name]))
        return found

    def state(self, many):
        """The values of all memories behind so many steps."""
        found = []
        for spot, told in self.spots():
            if told[0] == "then":
                found.append(not any(self.came(spot, at) for at in range(many)))
            elif told[0] == "before":
                # It looks at its part at the steps at which it comes itself.
                came = [at for at in range(many) if self.came(spot, at)]
                found.append(self.worth(spot + (0,), told[1], came[-1]) if came else told[2])
            else:
                found.append(self.last(spot + (0,), told[1], many, told[3]))
        return tuple(found)


def within(spot, told):
    found = [(spot, told)] if told[0] in ("before", "then", "held") else []
    for at, one in enumerate(told[1:]):
        if isinstance(one, tuple):
            found += within(spot + (at,), one)
    return found
