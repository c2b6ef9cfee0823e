"""Sheets by chance, and what they need, told once more by what their parts tell."""

from runrows.parts import Choice, Given, Named, Pair, Turned
from runrows.sheets import Input, Row, Sheet
from runrows.timed import Before, Held, Led, When

NAMES = "a b c d e f g h".split()


def any_part(chance, names, deep=0):
    """A part of some of these names, whatever their kinds and beats."""
    kind = chance.randrange(2 if deep > 2 else 9)
    name = chance.choice(names)
    if kind == 0:
        return Given(chance.choice([0, 1, True, False]))
    if kind == 1:
        return Named(name)
    inner = [any_part(chance, names, deep + 1) for at in range(3)]
    if kind == 2:
        return Turned(inner[0])
    if kind == 3:
        return Pair(chance.choice(["+", "=", "and"]), inner[0], inner[1])
    if kind == 4:
        return Choice(inner[0], inner[1], inner[2])
    if kind == 5:
        return Led(inner[0], inner[1])
    if kind == 6:
        return When(inner[0], name)
    return Held(inner[0], name) if kind == 7 else Before(inner[0])


def any_sheet(chance):
    """A sheet of at most eight names, with ons; kinds and beats need not fit, and there may be rings."""
    names = list(NAMES[:chance.randrange(1, len(NAMES) + 1)])
    chance.shuffle(names)
    # A sheet in which few look at others has an order now and then.
    looked_at = names[:chance.randrange(1, len(names) + 1)]
    inputs, rows, truths = [], [], []
    for name in names:
        kind = chance.choice(["truth", "number"])
        on = chance.choice(truths) if truths and chance.random() < 0.3 else None
        if chance.random() < 0.2:
            inputs.append(Input(name, kind, on))
        else:
            rows.append(Row(name, kind, any_part(chance, looked_at), on))
        if kind == "truth":
            truths.append(name)
    chance.shuffle(inputs)
    chance.shuffle(rows)
    return Sheet("main", inputs, [names[0]], rows or [Row("z", "number", Given(1))])


def places_looked_at(told, place=()):
    """All (name, place) of a told part at which Named, When or Held look at a name of the same step."""
    word = told[0]
    if word == "named":
        return [(told[1], place)]
    if word == "before":
        return []
    found = []
    for at, one in enumerate(told[1:]):
        if isinstance(one, tuple):
            found.extend(places_looked_at(one, place + (at,)))
    if word in ("when", "held"):
        found.append((told[2], place))
    return found


def told_needs(line):
    """The names that a line needs, its on behind those of its part."""
    found = [name for name, place in places_looked_at(line.part.told())] if isinstance(line, Row) else []
    return list(dict.fromkeys(found + ([line.on] if line.on else [])))
