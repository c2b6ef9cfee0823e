"""Parts made of what parts tell, and the parts that stand at places in others."""

from runrows.parts import Choice, Given, Named, Pair, Turned
from runrows.timed import Before, Held, Led, When

# For each word that a told tuple begins with: how long the tuple is, and how many told tuples follow the word.
# All else is told by a sign, and so left to Pair, which refuses another text in its place, behind what stands within.
SHAPES = {
    "given": (2, 0),
    "named": (2, 0),
    "not": (2, 1),
    "if": (4, 3),
    "before": (3, 1),
    "then": (3, 2),
    "when": (3, 1),
    "held": (4, 1),
}


def has_shape(told):
    return told[0] in SHAPES and len(told) == SHAPES[told[0]][0]


def plain_by(told, inner):
    word = told[0]
    if word == "given":
        return Given(told[1])
    if word == "named":
        return Named(told[1])
    if word == "not":
        return Turned(inner[0])
    return Choice(inner[0], inner[1], inner[2])


def timed_by(told, inner):
    word = told[0]
    if word == "before":
        return Before(inner[0], told[2])
    if word == "then":
        return Led(inner[0], inner[1])
    if word == "when":
        return When(inner[0], told[2])
    return Held(inner[0], told[2], told[3])


def part_of(told):
    shaped = has_shape(told)
    many = SHAPES[told[0]][1] if shaped else 2
    inner = [part_of(one) for one in told[1:1 + many]]
    if not shaped:
        return Pair(told[0], inner[0], inner[1])
    if told[0] in ("given", "named", "not", "if"):
        return plain_by(told, inner)
    return timed_by(told, inner)


def part_at(part, place):
    for at in place:
        part = part.inner()[at]
    return part
