"""A sheet run step by step, in the plainest way: whatever can be worked out is, until nothing is left."""

from runrows.kinds import filled


def run_sheet(sheet, steps):
    """For each step a dict from all names that come in it to their values."""
    sheet = filled(sheet)
    kept = {row.name: {} for row in sheet.lines}
    told = []
    for step in steps:
        now = values_of(sheet, dict(zip([line.name for line in sheet.inputs], step, strict=True)), kept)
        told.append(now)
        for row in sheet.lines:
            more = dict(kept[row.name])
            row.part.keep(now, kept[row.name], (), row.name in now, more)
            kept[row.name] = more
    return told


def values_of(sheet, step, kept):
    now, settled = {}, []
    left = list(sheet.inputs + sheet.lines)
    while left:
        ready = [line for line in left if is_settled(line, now, settled)]
        for line in ready:
            if line.on is None or now.get(line.on) is True:
                is_row = line.name in kept
                now[line.name] = line.part.worth(now, kept[line.name], ()) if is_row else step[line.name]
            settled.append(line.name)
        left = [line for line in left if line not in ready]
        if not ready:
            raise AssertionError("a ring of needs")
    return now


def is_settled(line, now, settled):
    """Whether what the line looks at is known to come or not to come."""
    if line.on is not None and line.on not in settled:
        return False
    if line.on is not None and now.get(line.on) is not True:
        return True
    return not hasattr(line, "part") or all(name in settled for name in line.part.needs())
