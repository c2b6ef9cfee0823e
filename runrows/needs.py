"""What each name of a sheet needs: the names whose values of the same step are to be there ahead of its own."""

from runrows.sheets import need_rows


def needs_of(sheet):
    need_rows(sheet)
    needs = {}
    for line in sheet.all_lines():
        needs[line.name] = line_needs(line)
    return needs


def line_needs(line):
    needs = []
    for part in line.own_parts():
        needs.extend(part.needs())
    if line.on is not None and line.on not in needs:
        needs.append(line.on)
    return needs
