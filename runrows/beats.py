"""The beats of a sheet's names: at which steps each one comes; and how two beats part."""

from runrows.errors import NoBeat
from runrows.sheets import need_rows


def beats_of(sheet):
    need_rows(sheet)
    found = sheet.lines_by_name()
    beats = {}
    for name in sheet.names():
        beats[name] = beat_of(found, name)
    for row in sheet.lines:
        beat = part_beat(row, beats)
        if beat is not None and beat != beats[row.name]:
            raise NoBeat(row.name, (), beat, beats[row.name])
    return beats


def beat_of(found, name):
    beat = ()
    on = found[name].on
    while on is not None:
        beat = (on,) + beat
        on = found[on].on
    return beat


def part_beat(row, beats):
    try:
        return row.part.beat_by(beats, ())
    except NoBeat as fault:
        raise NoBeat(row.name, fault.place, fault.one, fault.other) from None


def parting(one, other):
    if one == other:
        raise NoBeat(None, None, one, other)
    # The one that comes is to be without some name of the other, which then is False.
    has_all = all([name in other for name in one])
    comes = one if has_all else other
    truths = {}
    for name in one + other:
        truths[name] = name in comes
    return truths
