"""Moves done in the plainest way, none of which may look at a blank box."""

from tests.streams import SIGNS

BLANK = "blank"


def looked_at(word, looks):
    return () if word in ("given", "input") else looks


def is_done(guard, held):
    if guard is None:
        return True
    if held[guard] is BLANK:
        raise AssertionError("a guard looks at a blank box")
    return held[guard] is True


def seen_in(box, held):
    if held[box] is BLANK:
        raise AssertionError("a blank box is looked at")
    return held[box]


def run_moves(begins, moves, outs, steps):
    """For each step what outs tell, as a list of pairs, and the memories behind it."""
    most = max([move[1] for move in moves] + [len(begins) - 1])
    memories, told = list(begins), []
    for step in steps:
        held = memories + [BLANK] * (most + 1 - len(begins))
        for guard, goal, word, looks in moves:
            if is_done(guard, held):
                held[goal] = done(word, looks, [seen_in(box, held) for box in looked_at(word, looks)], step)
        memories = held[:len(begins)]
        told.append(([(name, seen_in(box, held)) for name, guard, box in outs if is_done(guard, held)], tuple(memories)))
    return told


def done(word, looks, seen, step):
    if word == "given":
        return looks[0]
    if word == "input":
        return step[looks[0]]
    if word == "copy":
        return seen[0]
    if word == "not":
        return not seen[0]
    if word == "if":
        return seen[1] if seen[0] else seen[2]
    return SIGNS[word](*seen)


def looks_at(moves, outs):
    """All (box, place) at which moves, guards and outs look."""
    found = []
    for at, (guard, goal, word, looks) in enumerate(moves):
        found += [(box, at) for box in looked_at(word, looks)] + ([] if guard is None else [(guard, at)])
    for name, guard, box in outs:
        found += [(box, len(moves))] + ([] if guard is None else [(guard, len(moves))])
    return found


def alive_at(begins, moves, outs, place):
    """The boxes, no memories, that are written ahead of a place and looked at there or behind it, rising."""
    written = {move[1] for move in moves[:place] if move[1] >= len(begins)}
    return sorted(written & {box for box, at in looks_at(moves, outs) if at >= place})
