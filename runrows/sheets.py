"""Sheets: modules with what comes in, what goes out and their lines; and books of several of them."""

from runrows.errors import NoName, NoSheet
from runrows.names import is_number, is_word
from runrows.parts import need_name

MOST_INPUTS = 8
MOST_OUTPUTS = 8
MOST_LINES = 80
MOST_SHEETS = 6


def need_sheet(holds, words):
    if not holds:
        raise NoSheet(words)


def need_word(word):
    if not is_word(word):
        raise NoName("a word that is no kept one is due")


def need_on(on):
    if on is not None:
        need_name(on)


def is_plain_kind(kind):
    return kind in ("truth", "number")


def is_stretch(kind):
    if not isinstance(kind, tuple) or len(kind) != 2:
        return False
    return is_number(kind[0]) and is_number(kind[1]) and kind[0] <= kind[1]


def plain_kind(kind):
    return kind if is_plain_kind(kind) else "number"


class Input:
    def __init__(self, name, kind, on=None):
        need_name(name)
        need_on(on)
        need_sheet(is_plain_kind(kind) or is_stretch(kind), "a kind, or a stretch of numbers, is due")
        self.name = name
        self.kind = kind
        self.on = on

    def own_names(self):
        return [self.name]

    def own_parts(self):
        return ()

    def is_truths(self):
        return self.kind == "truth"


class Row:
    def __init__(self, name, kind, part, on=None):
        need_name(name)
        need_on(on)
        need_sheet(is_plain_kind(kind), "the kind of a row is truth or number")
        self.name = name
        self.kind = kind
        self.part = part
        self.on = on

    def own_names(self):
        return [self.name]

    def own_parts(self):
        return (self.part,)

    def is_truths(self):
        return self.kind == "truth"


class Use:
    def __init__(self, binds, module, parts, on=None):
        for name in binds:
            need_name(name)
        need_on(on)
        need_word(module)
        need_sheet(1 <= len(binds) <= MOST_OUTPUTS, "a use has one to eight binds")
        self.binds = tuple(binds)
        self.module = module
        self.parts = tuple(parts)
        self.on = on

    def own_names(self):
        return list(self.binds)

    def own_parts(self):
        return self.parts

    def is_truths(self):
        # The kinds of binds hang on another sheet, so none of them can be looked at here.
        return False


class Sheet:
    def __init__(self, name, inputs, outputs, lines):
        need_word(name)
        self.name = name
        self.inputs = tuple(inputs)
        self.outputs = tuple(outputs)
        self.lines = tuple(lines)
        need_counts(self)
        need_once(self.names(), "a name stands twice")
        need_once(self.outputs, "an output stands twice")
        found = self.lines_by_name()
        need_known(self, found)
        need_ons(self, found)

    def all_lines(self):
        return self.inputs + self.lines

    def names(self):
        found = []
        for line in self.all_lines():
            found.extend(line.own_names())
        return found

    def lines_by_name(self):
        found = {}
        for line in self.all_lines():
            for name in line.own_names():
                found[name] = line
        return found

    def line(self, name):
        return self.lines_by_name()[name]


def need_counts(sheet):
    need_sheet(len(sheet.inputs) <= MOST_INPUTS, "a sheet has at most eight inputs")
    need_sheet(1 <= len(sheet.outputs) <= MOST_OUTPUTS, "a sheet has one to eight outputs")
    need_sheet(1 <= len(sheet.lines) <= MOST_LINES, "a sheet has one to eighty lines")


def need_once(names, words):
    need_sheet(len(set(names)) == len(names), words)


def names_looked_at(line):
    names = [] if line.on is None else [line.on]
    for part in line.own_parts():
        names.extend(part.names())
    return names


def need_known(sheet, found):
    wanted = list(sheet.outputs)
    for line in sheet.all_lines():
        wanted.extend(names_looked_at(line))
    for name in wanted:
        need_sheet(name in found, "a name is none of the sheet's")


def need_ons(sheet, found):
    for line in sheet.all_lines():
        passed = {}
        on = line.on
        while on is not None:
            need_sheet(found[on].is_truths(), "an on is to be an input or a row of truths")
            need_sheet(on not in passed, "from on to on one comes round")
            passed[on] = True
            on = found[on].on


def need_rows(sheet):
    for line in sheet.lines:
        need_sheet(isinstance(line, Row), "a sheet without uses is due")


class Book:
    def __init__(self, sheets):
        self.sheets = tuple(sheets)
        need_sheet(1 <= len(self.sheets) <= MOST_SHEETS, "a book has one to six sheets")
        need_once([sheet.name for sheet in self.sheets], "two sheets have one name")
        for at, sheet in enumerate(self.sheets):
            need_uses(sheet, self.sheets[:at])

    def main(self):
        return self.sheets[-1]

    def sheet_of(self, name):
        return sheets_by_name(self.sheets)[name]


def sheets_by_name(sheets):
    found = {}
    for sheet in sheets:
        found[sheet.name] = sheet
    return found


def need_uses(sheet, ahead):
    found = sheets_by_name(ahead)
    for line in sheet.lines:
        if isinstance(line, Use):
            need_sheet(line.module in found, "a use is of a module that is told ahead of it")
            need_fit(line, found[line.module])


def need_fit(use, sheet):
    need_sheet(len(use.parts) == len(sheet.inputs), "a use has a part for each input")
    need_sheet(len(use.binds) == len(sheet.outputs), "a use has a bind for each output")
    # What is put in place comes as a whole, at the steps of its use: so no end of it may have steps of its own.
    ends = list(sheet.inputs) + [sheet.line(name) for name in sheet.outputs]
    for line in ends:
        need_sheet(line.on is None, "what is put in place has no on at its inputs and outputs")
