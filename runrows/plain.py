"""The plain reading of a sheet: the values of all its names, step by step."""

from runrows.beats import beats_of
from runrows.errors import NoInput, NoSheet
from runrows.kinds import filled, kinds_of
from runrows.names import is_number
from runrows.orders import is_order, order
from runrows.sheets import Row


def need_let_by(sheet):
    kinds_of(sheet)
    beats_of(sheet)
    order(sheet)


def may_come_in(value, kind):
    if kind == "truth":
        return isinstance(value, bool)
    if kind == "number":
        return is_number(value)
    return is_number(value) and kind[0] <= value <= kind[1]


def need_values(inputs, step):
    if len(step) != len(inputs):
        raise NoInput("a value for each input is due")
    for line, value in zip(inputs, step):
        if not may_come_in(value, line.kind):
            raise NoInput("a value of the input's kind, in its stretch, is due")


def need_step(sheet, step):
    need_let_by(sheet)
    need_values(sheet.inputs, step)


def plain(sheet, steps, names=None):
    need_let_by(sheet)
    if names is None:
        names = order(sheet)
    if not is_order(sheet, names):
        raise NoSheet("an order of all names is due")
    for step in steps:
        need_values(sheet.inputs, step)
    return run(filled(sheet), steps, names)


def run(sheet, steps, names):
    kept = {}
    for row in sheet.lines:
        kept[row.name] = {}
    told = []
    for step in steps:
        now = values_now(sheet, step, kept, names)
        told.append(now)
        kept = kept_behind(sheet, now, kept)
    return told


def values_now(sheet, step, kept, names):
    found = sheet.lines_by_name()
    given = dict(zip([line.name for line in sheet.inputs], step))
    now = {}
    for name in names:
        line = found[name]
        # A row that does not come has no value, so as an on it is as one that is not True.
        if line.on is None or now.get(line.on) is True:
            now[name] = line.part.worth(now, kept[name], ()) if isinstance(line, Row) else given[name]
    return in_order(sheet.names(), now)


def in_order(names, now):
    ordered = {}
    for name in names:
        if name in now:
            ordered[name] = now[name]
    return ordered


def kept_behind(sheet, now, kept):
    later = {}
    for row in sheet.lines:
        more = dict(kept[row.name])
        row.part.keep(now, kept[row.name], (), row.name in now, more)
        later[row.name] = more
    return later
