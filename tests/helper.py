"""What several tests use."""

from runrows.parts import Choice, Given, Named, Pair, Turned
from runrows.timed import Before, Held, Led, When

SIGNS = ("+", "-", "*", "=", "<", "<=", "and", "or")


def exact(thing):
    """The thing with its kinds beside it, since to Python True == 1 and False == 0."""
    if isinstance(thing, (list, tuple)):
        return (type(thing).__name__, [exact(one) for one in thing])
    if isinstance(thing, dict):
        return ("dict", [(exact(key), exact(thing[key])) for key in sorted(thing)])
    return (type(thing).__name__, thing)


def named(*names):
    """A part in which just these names stand, from the left."""
    part = Named(names[0])
    for name in names[1:]:
        part = Pair("and", part, Named(name))
    return part


def deep(depth):
    """A part of this depth, of one part in another."""
    part = Given(True)
    for _ in range(depth - 1):
        part = Turned(part)
    return part


def large(size):
    """A part of this (even) size and at most 7 deep: a Turned, with a balanced tree of pairs in it."""
    parts = [Given(True)] * (size // 2)
    while len(parts) > 1:
        rest = parts[len(parts) // 2 * 2:]
        parts = [Pair("and", *parts[at:at + 2]) for at in range(0, len(parts) - 1, 2)] + rest
    return Turned(parts[0])


def all_kinds(part):
    """Each kind of part that holds another, around this one; nothing beside it but values."""
    value = Given(True)
    return [
        Turned(part),
        Pair("and", part, value),
        Pair("and", value, part),
        Choice(part, value, value),
        Choice(value, part, value),
        Choice(value, value, part),
        Before(part),
        Led(part, value),
        Led(value, part),
        When(part, "c"),
        Held(part, "c"),
    ]


def place_in(whole, part):
    """Where in a part of all_kinds the other one stands, looked for by the told fields alone."""
    order = {
        "Turned": ["part"],
        "Pair": ["one", "other"],
        "Choice": ["truth", "one", "other"],
        "Before": ["part"],
        "Led": ["head", "rest"],
        "When": ["part"],
        "Held": ["part"],
    }
    fields = order[type(whole).__name__]
    return [at for at, field in enumerate(fields) if getattr(whole, field) is part][0]


def run(part, steps):
    """Its worths at the steps at which it comes (else None), by memories kept from step to step.

    A step is now, or a pair of now and whether the part comes."""
    kept = {}
    worths = []
    for step in steps:
        now, comes = step if isinstance(step, tuple) else (step, True)
        worths.append(part.worth(now, kept, ()) if comes else None)
        more = dict(kept)
        part.keep(now, kept, (), comes, more)
        kept = more
    return worths


def refused(case, error, make, *handed):
    """The refusal that comes of a call: of just this class, none under it."""
    with case.assertRaises(error) as caught:
        make(*handed)
    case.assertIs(type(caught.exception), error)
    return caught.exception


def deep_told(depth):
    """What deep tells, without the part being made."""
    told = ("given", True)
    for _ in range(depth - 1):
        told = ("not", told)
    return told


def line_tells(line):
    """All fields of an Input, a Row or a Use."""
    kind = type(line).__name__
    if kind == "Input":
        return (kind, line.name, line.kind, line.on)
    if kind == "Row":
        return (kind, line.name, line.kind, line.part.told(), line.on)
    return (kind, line.binds, line.module, tuple(part.told() for part in line.parts), line.on)


def sheet_tells(sheet):
    """All fields of a Sheet, and of what stands in it."""
    return (
        sheet.name, tuple(line_tells(line) for line in sheet.inputs), sheet.outputs,
        tuple(line_tells(line) for line in sheet.lines),
    )


def book_tells(book):
    """All fields of a Book, and of what stands in it, with the kinds beside them."""
    return exact(tuple(sheet_tells(sheet) for sheet in book.sheets))


def letters(many, ahead="q"):
    """As many unlike words, of three letters; no kept word begins with a q."""
    small = "abcdefghijklmnopqrstuvwxyz"
    return [ahead + small[at // 26] + small[at % 26] for at in range(many)]
