"""The four kinds of parts that look at other steps, or come at some steps alone."""

from runrows.errors import NoBeat, NoPart
from runrows.names import is_value, value_kind, value_text
from runrows.parts import Part, need_name


def need_first(first):
    if first is not None and not is_value(first):
        raise NoPart("a first value is to be a value, or None")


def need_beat(beat, wanted, place):
    if beat is not None and beat != wanted:
        raise NoBeat(None, place, beat, wanted)


def fits(first, kind):
    return first is None or value_kind(first) == kind


def first_text(first):
    return "" if first is None else " " + value_text(first)


class Before(Part):
    def __init__(self, part, first=None):
        need_first(first)
        self.part = part
        self.first = first
        self.need_bounds()

    def inner(self):
        return (self.part,)

    def needs(self):
        return []

    def kind_from(self, kinds, within):
        return within[0] if fits(self.first, within[0]) else None

    def told(self):
        return ("before", self.part.told(), self.first)

    def text(self):
        part = self.part.text()
        first = first_text(self.first)
        return f"(before {part}{first})"

    def worth(self, now, kept, place):
        return kept.get(place, self.first)

    def keep(self, now, kept, place, comes, more):
        if comes:
            more[place] = self.part.worth(now, kept, place + (0,))
        self.part.keep(now, kept, place + (0,), comes, more)


class Led(Part):
    def __init__(self, head, rest):
        self.head = head
        self.rest = rest
        self.need_bounds()

    def inner(self):
        return (self.head, self.rest)

    def kind_from(self, kinds, within):
        return within[0] if within[0] == within[1] else None

    def told(self):
        return ("then", self.head.told(), self.rest.told())

    def text(self):
        head = self.head.text()
        rest = self.rest.text()
        return f"({head} then {rest})"

    def worth(self, now, kept, place):
        if place in kept:
            return self.rest.worth(now, kept, place + (1,))
        return self.head.worth(now, kept, place + (0,))

    def keep(self, now, kept, place, comes, more):
        if comes:
            more[place] = True
        self.head.keep(now, kept, place + (0,), comes, more)
        self.rest.keep(now, kept, place + (1,), comes, more)


class When(Part):
    def __init__(self, part, name):
        need_name(name)
        self.part = part
        self.name = name
        self.need_bounds()

    def inner(self):
        return (self.part,)

    def own_names(self):
        return [self.name]

    def kind_from(self, kinds, within):
        return within[0] if kinds[self.name] == "truth" else None

    def beat_from(self, beats, within, place):
        beat = beats[self.name]
        need_beat(within[0], beat, place)
        return beat + (self.name,)

    def told(self):
        return ("when", self.part.told(), self.name)

    def text(self):
        part = self.part.text()
        name = self.name
        return f"({part} when {name})"

    def worth(self, now, kept, place):
        return self.part.worth(now, kept, place + (0,))

    def keep(self, now, kept, place, comes, more):
        # The part within has the beat of the named row, so it comes with that row, be it True or not.
        self.part.keep(now, kept, place + (0,), self.name in now, more)


class Held(Part):
    def __init__(self, part, name, first=None):
        need_name(name)
        need_first(first)
        self.part = part
        self.name = name
        self.first = first
        self.need_bounds()

    def inner(self):
        return (self.part,)

    def own_names(self):
        return [self.name]

    def kind_from(self, kinds, within):
        return within[0] if kinds[self.name] == "truth" and fits(self.first, within[0]) else None

    def beat_from(self, beats, within, place):
        beat = beats[self.name]
        need_beat(within[0], beat + (self.name,), place)
        return beat

    def told(self):
        return ("held", self.part.told(), self.name, self.first)

    def text(self):
        part = self.part.text()
        name = self.name
        first = first_text(self.first)
        return f"({part} held {name}{first})"

    def comes_within(self, now):
        return now.get(self.name) is True

    def worth(self, now, kept, place):
        if self.comes_within(now):
            return self.part.worth(now, kept, place + (0,))
        return kept.get(place, self.first)

    def keep(self, now, kept, place, comes, more):
        within = self.comes_within(now)
        if within:
            more[place] = self.part.worth(now, kept, place + (0,))
        self.part.keep(now, kept, place + (0,), within, more)
