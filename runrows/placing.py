"""Modules put in place: the one sheet of rows alone that a book comes to."""

from runrows.errors import TooMany
from runrows.names import is_name
from runrows.parts import Named
from runrows.sheets import MOST_LINES, Row, Sheet, plain_kind
from runrows.trees import renamed


def placed(book):
    main = book.main()
    return Sheet(main.name, main.inputs, main.outputs, rows_of(book, main))


def rows_of(book, sheet):
    rows = []
    for line in sheet.lines:
        if isinstance(line, Row):
            rows.append(line)
        else:
            rows.extend(rows_of_use(book, line))
        # Uses of uses would come to very many rows, so what is refused is left off as soon as it is seen.
        if len(rows) > MOST_LINES:
            raise TooMany("there would be more than eighty lines")
    return rows


def rows_of_use(book, use):
    module = book.sheet_of(use.module)
    head = use.binds[0]
    rows = []
    for line, part in zip(module.inputs, use.parts):
        rows.append(Row(behind(head, line.name), plain_kind(line.kind), part, use.on))
    for row in rows_of(book, module):
        rows.append(moved(row, head, use.on))
    kinds = kinds_told(rows)
    for bind, output in zip(use.binds, module.outputs):
        name = behind(head, output)
        rows.append(Row(bind, kinds[name], Named(name), use.on))
    return rows


def behind(head, name):
    longer = f"{head}.{name}"
    # Both are names, so together they are none for one reason alone.
    if not is_name(longer):
        raise TooMany("a name would have more than four words")
    return longer


def moved(row, head, on):
    part = renamed(row.part, lambda name: behind(head, name))
    return Row(behind(head, row.name), row.kind, part, on if row.on is None else behind(head, row.on))


def kinds_told(rows):
    kinds = {}
    for row in rows:
        kinds[row.name] = row.kind
    return kinds
