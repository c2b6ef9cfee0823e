"""The parts of equations: what all of them share, and the five kinds that look at one step alone."""

from runrows.errors import NoBeat, NoKind, NoName, NoPart
from runrows.names import brought, is_name, is_value, value_kind, value_text

DEEPEST = 10
LARGEST = 40
# For each sign the kind that it wants on both sides (None: any, if it is one), and the kind that it tells.
SIGNS = {
    "+": ("number", "number"),
    "-": ("number", "number"),
    "*": ("number", "number"),
    "=": (None, "truth"),
    "<": ("number", "truth"),
    "<=": ("number", "truth"),
    "and": ("truth", "truth"),
    "or": ("truth", "truth"),
}


def need_name(name):
    if not is_name(name):
        raise NoName("a name is due")


def once(lists):
    found = []
    for names in lists:
        for name in names:
            if name not in found:
                found.append(name)
    return found


def paired(sign, one, other):
    if sign == "+":
        return brought(one + other)
    if sign == "-":
        return brought(one - other)
    if sign == "*":
        return brought(one * other)
    if sign == "=":
        # To Python True is 1 and False is 0; here a truth and a number are never the same.
        return value_kind(one) == value_kind(other) and one == other
    if sign == "<":
        return one < other
    if sign == "<=":
        return one <= other
    if sign == "and":
        return one and other
    return one or other


class Part:
    def inner(self):
        return ()

    def own_names(self):
        return []

    def size(self):
        return 1 + sum([part.size() for part in self.inner()])

    def depth(self):
        return 1 + max([part.depth() for part in self.inner()], default=0)

    def need_bounds(self):
        if self.depth() > DEEPEST or self.size() > LARGEST:
            raise NoPart("a part is too deep or too large")

    def names(self):
        return once([part.names() for part in self.inner()] + [self.own_names()])

    def needs(self):
        return once([part.needs() for part in self.inner()] + [self.own_names()])

    def kind_by(self, kinds, place):
        within = [part.kind_by(kinds, place + (at,)) for at, part in enumerate(self.inner())]
        kind = self.kind_from(kinds, within)
        if kind is None:
            raise NoKind(None, place)
        return kind

    def beat_by(self, beats, place):
        within = [part.beat_by(beats, place + (at,)) for at, part in enumerate(self.inner())]
        return self.beat_from(beats, within, place)

    def beat_from(self, beats, within, place):
        known = [beat for beat in within if beat is not None]
        for beat in known:
            if beat != known[0]:
                raise NoBeat(None, place, known[0], beat)
        return known[0] if len(known) > 0 else None

    def keep(self, now, kept, place, comes, more):
        for at, part in enumerate(self.inner()):
            part.keep(now, kept, place + (at,), comes, more)


class Given(Part):
    def __init__(self, value):
        if not is_value(value):
            raise NoPart("a truth or a number from -128 to 127 is due")
        self.value = value

    def kind_from(self, kinds, within):
        return value_kind(self.value)

    def told(self):
        return ("given", self.value)

    def text(self):
        return value_text(self.value)

    def worth(self, now, kept, place):
        return self.value


class Named(Part):
    def __init__(self, name):
        need_name(name)
        self.name = name

    def own_names(self):
        return [self.name]

    def kind_from(self, kinds, within):
        return kinds[self.name]

    def beat_from(self, beats, within, place):
        return beats[self.name]

    def told(self):
        return ("named", self.name)

    def text(self):
        return self.name

    def worth(self, now, kept, place):
        return now[self.name]


class Turned(Part):
    def __init__(self, part):
        self.part = part
        self.need_bounds()

    def inner(self):
        return (self.part,)

    def kind_from(self, kinds, within):
        return "truth" if within[0] == "truth" else None

    def told(self):
        return ("not", self.part.told())

    def text(self):
        part = self.part.text()
        return f"(not {part})"

    def worth(self, now, kept, place):
        return not self.part.worth(now, kept, place + (0,))


class Pair(Part):
    def __init__(self, sign, one, other):
        if sign not in SIGNS:
            raise NoPart("one of the eight signs is due")
        self.sign = sign
        self.one = one
        self.other = other
        self.need_bounds()

    def inner(self):
        return (self.one, self.other)

    def kind_from(self, kinds, within):
        wanted = SIGNS[self.sign][0]
        if within[0] != within[1] or (wanted is not None and within[0] != wanted):
            return None
        return SIGNS[self.sign][1]

    def told(self):
        return (self.sign, self.one.told(), self.other.told())

    def text(self):
        one = self.one.text()
        sign = self.sign
        other = self.other.text()
        return f"({one} {sign} {other})"

    def worth(self, now, kept, place):
        one = self.one.worth(now, kept, place + (0,))
        other = self.other.worth(now, kept, place + (1,))
        return paired(self.sign, one, other)


class Choice(Part):
    def __init__(self, truth, one, other):
        self.truth = truth
        self.one = one
        self.other = other
        self.need_bounds()

    def inner(self):
        return (self.truth, self.one, self.other)

    def kind_from(self, kinds, within):
        return within[1] if within[0] == "truth" and within[1] == within[2] else None

    def told(self):
        return ("if", self.truth.told(), self.one.told(), self.other.told())

    def text(self):
        truth = self.truth.text()
        one = self.one.text()
        other = self.other.text()
        return f"(if {truth} {one} {other})"

    def worth(self, now, kept, place):
        if self.truth.worth(now, kept, place + (0,)) is True:
            return self.one.worth(now, kept, place + (1,))
        return self.other.worth(now, kept, place + (2,))
