"""The refusals: one class for each, all of them under RowError."""


class RowError(ValueError):
    pass


class NoName(RowError):
    pass


class NoPart(RowError):
    pass


class NoText(RowError):
    def __init__(self, row):
        self.row = row


class NoSheet(RowError):
    pass


class NoKind(RowError):
    def __init__(self, row, place):
        self.row = row
        self.place = place


class NoBeat(RowError):
    def __init__(self, row, place, one, other):
        self.row = row
        self.place = place
        self.one = one
        self.other = other


class Ring(RowError):
    def __init__(self, ring):
        self.ring = ring


class NoInput(RowError):
    pass


class NoState(RowError):
    pass


class NoClaim(RowError):
    pass


class TooMany(RowError):
    pass
