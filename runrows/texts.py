"""Books written as texts, and read from them."""

from runrows.cutting import name_by, need_form, number_by, one_told, parts_told
from runrows.errors import NoText
from runrows.sheets import Book, Input, Row, Sheet, Use
from runrows.trees import part_of

# For each first word of a row (`start` for none as yet) the first words of the rows that may stand behind it.
BEHIND = {
    "start": ("module",),
    "module": ("in", "out", "row", "use", "end"),
    "in": ("in", "out", "row", "use", "end"),
    "out": ("out", "row", "use", "end"),
    "row": ("row", "use", "end"),
    "use": ("row", "use", "end"),
    "end": ("module",),
}


def kind_text(kind):
    if not isinstance(kind, tuple):
        return kind
    low = kind[0]
    high = kind[1]
    return f"{low}..{high}"


def on_text(on):
    return "" if on is None else f" on {on}"


def input_text(line):
    return "in " + line.name + " " + kind_text(line.kind) + on_text(line.on)


def row_text(line):
    return "row " + line.name + " " + line.kind + on_text(line.on) + " = " + line.part.text()


def use_text(line):
    binds = " ".join(line.binds)
    put = " ".join([line.module] + [part.text() for part in line.parts])
    return "use " + binds + on_text(line.on) + " = " + put


def line_text(line):
    return use_text(line) if isinstance(line, Use) else row_text(line)


def sheet_rows(sheet):
    rows = ["module " + sheet.name]
    rows.extend([input_text(line) for line in sheet.inputs])
    rows.extend(["out " + name for name in sheet.outputs])
    rows.extend([line_text(line) for line in sheet.lines])
    rows.append("end")
    return rows


def written(book):
    rows = []
    for sheet in book.sheets:
        rows.extend(sheet_rows(sheet))
    return "".join([row + "\n" for row in rows])


def kind_of_word(word):
    if word in ("truth", "number"):
        return word
    ends = word.split("..")
    need_form(len(ends) == 2)
    return (number_by(ends[0]), number_by(ends[1]))


def on_by(words):
    if len(words) == 0:
        return None
    need_form(len(words) == 2 and words[0] == "on")
    return name_by(words[1])


def sides_of_equals(words):
    need_form("=" in words)
    # The parts behind it may have others, so it is the first one.
    at = words.index("=")
    return (words[:at], words[at + 1:])


def input_form(words):
    need_form(len(words) >= 3)
    return ("in", name_by(words[1]), kind_of_word(words[2]), on_by(words[3:]))


def row_form(words):
    both = sides_of_equals(words)
    head = both[0]
    need_form(len(head) >= 3 and head[2] in ("truth", "number"))
    return ("row", name_by(head[1]), head[2], one_told(both[1]), on_by(head[3:]))


def use_form(words):
    both = sides_of_equals(words)
    head = both[0]
    many = head.index("on") if "on" in head else len(head)
    binds = [name_by(word) for word in head[1:many]]
    need_form(len(binds) >= 1 and len(both[1]) >= 1)
    return ("use", binds, name_by(both[1][0]), parts_told(both[1][1:]), on_by(head[many:]))


def named_form(words):
    need_form(len(words) == 2)
    return (words[0], name_by(words[1]))


def form_by(words):
    if words[0] == "in":
        return input_form(words)
    if words[0] == "row":
        return row_form(words)
    if words[0] == "use":
        return use_form(words)
    if words[0] in ("module", "out"):
        return named_form(words)
    need_form(words == ["end"])
    return ("end",)


def form_at(row, at):
    try:
        return form_by(row.split(" "))
    except NoText:
        raise NoText(at) from None


# All rows are cut before anything is made of one, since what is not of the form is refused ahead of all else.
def forms_of(text):
    rows = text.split("\n")
    forms = []
    last = "start"
    for at, row in enumerate(rows[:-1]):
        form = form_at(row, at)
        if form[0] not in BEHIND[last]:
            raise NoText(at)
        forms.append(form)
        last = form[0]
    if rows[-1] != "" or last != "end":
        raise NoText(len(rows) - 1)
    return forms


def line_by(form):
    if form[0] == "row":
        return Row(form[1], form[2], part_of(form[3]), form[4])
    return Use(form[1], form[2], [part_of(told) for told in form[3]], form[4])


def sheet_by(forms):
    inputs = []
    outputs = []
    lines = []
    for form in forms[1:]:
        if form[0] == "in":
            inputs.append(Input(form[1], form[2], form[3]))
        elif form[0] == "out":
            outputs.append(form[1])
        else:
            lines.append(line_by(form))
    return Sheet(forms[0][1], inputs, outputs, lines)


def read(text):
    sheets = []
    forms = []
    for form in forms_of(text):
        if form[0] == "end":
            sheets.append(sheet_by(forms))
            forms = []
        else:
            forms.append(form)
    return Book(sheets)
