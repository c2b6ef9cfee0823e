"""The kinds of a sheet's names, and the first values that hang on them."""

from runrows.errors import NoKind
from runrows.sheets import Row, Sheet, need_rows, plain_kind
from runrows.trees import changed, part_of

NOUGHTS = {"number": 0, "truth": False}


def kinds_of(sheet):
    need_rows(sheet)
    kinds = {}
    for line in sheet.all_lines():
        kinds[line.name] = plain_kind(line.kind)
    for row in sheet.lines:
        if part_kind(row, kinds) != row.kind:
            raise NoKind(row.name, ())
    return kinds


def part_kind(row, kinds):
    try:
        return row.part.kind_by(kinds, ())
    except NoKind as fault:
        raise NoKind(row.name, fault.place) from None


def filled(sheet):
    kinds = kinds_of(sheet)
    rows = [Row(row.name, row.kind, filled_part(row.part, kinds), row.on) for row in sheet.lines]
    return Sheet(sheet.name, sheet.inputs, sheet.outputs, rows)


def filled_part(part, kinds):
    def fill(told):
        # In what a part tells None stands in the place of a first alone, at the end.
        if told[-1] is not None:
            return told
        kind = part_of(told[1]).kind_by(kinds, ())
        return told[:-1] + (NOUGHTS[kind],)

    return changed(part, fill)
