"""Orders of a sheet's names, each behind all that it needs; or a ring of needs, where there is none."""

from runrows.errors import Ring
from runrows.needs import needs_of


def order(sheet):
    needs = needs_of(sheet)
    ordered = []
    left = list(needs)
    while len(left) > 0:
        ready = [name for name in left if are_all_in(needs[name], ordered)]
        if len(ready) == 0:
            raise Ring(ring_told(sheet, ring_of(needs, left)))
        ordered.append(ready[0])
        left.remove(ready[0])
    return ordered


def are_all_in(names, others):
    return all([name in others for name in names])


def ring_of(needs, left):
    # Each of these names needs another one of them, so going from need to need comes round.
    passed = []
    name = left[0]
    while name not in passed:
        passed.append(name)
        name = [need for need in needs[name] if need in left][0]
    return passed[passed.index(name):]


def ring_told(sheet, names):
    pairs = []
    for name, need in zip(names, names[1:] + names[:1]):
        pairs.append((name, place_needed(sheet.line(name), need)))
    return tuple(pairs)


def place_needed(line, need):
    for part in line.own_parts():
        if need in part.needs():
            return place_in(part, need)
    return None


def place_in(part, need):
    # What stands in a Before is none of its needs: so the way never leads into one.
    place = ()
    while need not in part.own_names():
        at = [need in inner.needs() for inner in part.inner()].index(True)
        place = place + (at,)
        part = part.inner()[at]
    return place


def is_order(sheet, names):
    needs = needs_of(sheet)
    passed = []
    for name in names:
        if name not in needs or name in passed or not are_all_in(needs[name], passed):
            return False
        passed.append(name)
    return len(passed) == len(needs)
