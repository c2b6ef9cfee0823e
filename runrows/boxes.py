"""Numbers of boxes that several values have, one behind the other, and the place at which most boxes are alive."""

from runrows.moves import looks_of_move, looks_of_outs, moves_of, moves_with, outs_with


def first_writes(begins, moves):
    firsts = {}
    for at, move in enumerate(moves):
        if move[1] >= len(begins) and move[1] not in firsts:
            firsts[move[1]] = at
    return firsts


def last_looks(moves, outs):
    lasts = {}
    for at, move in enumerate(moves):
        for box in looks_of_move(move):
            lasts[box] = at
    for box in looks_of_outs(outs):
        lasts[box] = len(moves)
    return lasts


def first_free(ends, at):
    # A move looks ahead of its write: a box at which it is the last to look is free for its goal.
    for slot, end in enumerate(ends):
        if end <= at:
            return slot
    return len(ends)


def shared(begins, moves, outs):
    firsts = first_writes(begins, moves)
    lasts = last_looks(moves, outs)
    numbers = {}
    for box in range(len(begins)):
        numbers[box] = box
    # For each shared box the last look at the one that has its number by now.
    ends = []
    for box in firsts:
        slot = first_free(ends, firsts[box])
        ends = ends[:slot] + [lasts[box]] + ends[slot + 1:]
        numbers[box] = len(begins) + slot
    return (len(begins) + len(ends), moves_with(moves, numbers), outs_with(outs, numbers))


def crowd(sheet):
    told = moves_of(sheet)
    firsts = first_writes(told[0], told[1])
    lasts = last_looks(told[1], told[2])
    place = crowded_place(firsts, lasts, len(told[1]))
    return (place, tuple(sorted([box for box in firsts if firsts[box] < place <= lasts[box]])))


def crowded_place(firsts, lasts, end):
    changes = [0] * (end + 2)
    for box in firsts:
        changes[firsts[box] + 1] += 1
        changes[lasts[box] + 1] -= 1
    found = 0
    alive = 0
    most = 0
    for place, change in enumerate(changes):
        alive += change
        if alive > most:
            most = alive
            found = place
    return found
