"""Parts made of what parts tell, also with changes, and the parts that stand at places in others."""

from runrows.parts import Choice, Given, Named, Pair, Turned
from runrows.timed import Before, Held, Led, When

# For each word that a told tuple begins with: how long the tuple is, and how many told tuples follow the word.
# All else is told by a sign, and so left to Pair, which refuses another text in its place, behind what stands within.
SHAPES = {
    "given": (2, 0),
    "named": (2, 0),
    "not": (2, 1),
    "if": (4, 3),
    "before": (3, 1),
    "then": (3, 2),
    "when": (3, 1),
    "held": (4, 1),
}
# For each word behind which a name stands, the name's place in the told tuple.
NAME_PLACES = {"named": 1, "when": 2, "held": 2}


def has_shape(told):
    return told[0] in SHAPES and len(told) == SHAPES[told[0]][0]


def plain_by(told, inner):
    word = told[0]
    if word == "given":
        return Given(told[1])
    if word == "named":
        return Named(told[1])
    if word == "not":
        return Turned(inner[0])
    return Choice(inner[0], inner[1], inner[2])


def timed_by(told, inner):
    word = told[0]
    if word == "before":
        return Before(inner[0], told[2])
    if word == "then":
        return Led(inner[0], inner[1])
    if word == "when":
        return When(inner[0], told[2])
    return Held(inner[0], told[2], told[3])


def many_within(told):
    return SHAPES[told[0]][1] if has_shape(told) else 2


def part_of(told):
    inner = [part_of(one) for one in told[1:1 + many_within(told)]]
    if not has_shape(told):
        return Pair(told[0], inner[0], inner[1])
    if told[0] in ("given", "named", "not", "if"):
        return plain_by(told, inner)
    return timed_by(told, inner)


def part_at(part, place):
    for at in place:
        part = part.inner()[at]
    return part


def told_changed(told, change):
    ahead = 1 + many_within(told)
    inner = [told_changed(one, change) for one in told[1:ahead]]
    return change(told[:1] + tuple(inner) + told[ahead:])


def changed(part, change):
    # Each told tuple is handed to change when those within it have been.
    return part_of(told_changed(part.told(), change))


def renamed(part, name_for):
    def change(told):
        if told[0] not in NAME_PLACES:
            return told
        at = NAME_PLACES[told[0]]
        return told[:at] + (name_for(told[at]),) + told[at + 1:]

    return changed(part, change)
