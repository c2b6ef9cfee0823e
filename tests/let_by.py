"""Sheets by chance that are let by: of kinds and beats that fit, and without rings."""

from runrows.parts import Choice, Given, Named, Pair, Turned
from runrows.sheets import Input, Row, Sheet
from runrows.timed import Before, Held, Led, When

NUMBERS = (-128, -100, -3, -1, 0, 1, 2, 5, 64, 127)
WORDS = "a b c d e f g h i j k l m n o p".split()


def any_value(chance, kind):
    return chance.random() < 0.6 if kind == "truth" else chance.choice(NUMBERS)


class Maker:
    """Parts of a kind and a beat; ahead are the names whose values of the same step may be looked at."""

    def __init__(self, chance, beats, kinds):
        self.chance, self.beats, self.kinds = chance, beats, kinds

    def fitting(self, kind, beat, names):
        return [name for name in names if self.kinds[name] == kind and self.beats[name] == beat]

    def leaf(self, kind, beat, ahead):
        names = self.fitting(kind, beat, ahead)
        if names and self.chance.random() < 0.8:
            return Named(self.chance.choice(names))
        return Given(any_value(self.chance, kind))

    def part(self, kind, beat, ahead, deep):
        chance = self.chance
        if deep == 0 or chance.random() < 0.1:
            return self.leaf(kind, beat, ahead)
        ways = [self.signed, self.choice, self.before, self.before, self.led]
        if beat and beat[-1] in ahead:
            ways += [self.when] * 3
        if self.fitting("truth", beat, ahead):
            ways += [self.held] * 3
        return chance.choice(ways)(kind, beat, ahead, deep - 1)

    def signed(self, kind, beat, ahead, deep):
        if kind == "number":
            sign, within = self.chance.choice(["+", "-", "*"]), "number"
        else:
            sign = self.chance.choice(["=", "<", "<=", "and", "or", "not"])
            within = "number" if sign in ("<", "<=") else "truth"
            if sign == "=":
                within = self.chance.choice(["truth", "number"])
            if sign == "not":
                return Turned(self.part("truth", beat, ahead, deep))
        return Pair(sign, self.part(within, beat, ahead, deep), self.part(within, beat, ahead, deep))

    def choice(self, kind, beat, ahead, deep):
        kinds = ("truth", kind, kind)
        return Choice(*[self.part(one, beat, ahead, min(deep, 1)) for one in kinds])

    def first(self, kind):
        return None if self.chance.random() < 0.4 else any_value(self.chance, kind)

    def before(self, kind, beat, ahead, deep):
        return Before(self.part(kind, beat, list(self.kinds), deep), self.first(kind))

    def led(self, kind, beat, ahead, deep):
        return Led(self.part(kind, beat, ahead, deep), self.part(kind, beat, ahead, deep))

    def when(self, kind, beat, ahead, deep):
        return When(self.part(kind, beat[:-1], ahead, deep), beat[-1])

    def held(self, kind, beat, ahead, deep):
        name = self.chance.choice(self.fitting("truth", beat, ahead))
        return Held(self.part(kind, beat + (name,), ahead, deep), name, self.first(kind))


def any_let_by(chance, deep=3, words=WORDS):
    """A sheet of at most sixteen names; what it is made of stands in any order."""
    names = list(words[:chance.randrange(2, len(words) + 1)])
    chance.shuffle(names)
    kinds, beats, inputs = {}, {}, []
    for name in names:
        truths = [one for one in kinds if kinds[one] == "truth"]
        on = chance.choice(truths) if truths and chance.random() < 0.45 else None
        beats[name] = () if on is None else beats[on] + (on,)
        kinds[name] = chance.choice(["truth", "truth", "number"])
        if len(inputs) < 5 and chance.random() < 0.35:
            stretch = tuple(sorted([chance.choice(NUMBERS), chance.choice(NUMBERS)]))
            kind = "truth" if kinds[name] == "truth" else chance.choice(["number", stretch])
            inputs.append(Input(name, kind, on))
    maker = Maker(chance, beats, kinds)
    rows = []
    for at, name in enumerate(names):
        if name not in [line.name for line in inputs]:
            part = maker.part(kinds[name], beats[name], names[:at], chance.randrange(deep + 1))
            rows.append(Row(name, kinds[name], part, beats[name][-1] if beats[name] else None))
    chance.shuffle(inputs)
    chance.shuffle(rows)
    outputs = chance.sample(names, chance.randrange(1, min(len(names), 8) + 1))
    return Sheet("main", inputs, outputs, rows or [Row("z", "truth", Given(True))])


def any_steps(chance, sheet, many):
    return [tuple(any_input(chance, line.kind) for line in sheet.inputs) for at in range(many)]


def any_input(chance, kind):
    return chance.randint(*kind) if isinstance(kind, tuple) else any_value(chance, kind)
