import random
import unittest

from runrows.errors import NoSheet, TooMany
from runrows.parts import Choice, Given, Named, Pair, Turned
from runrows.placing import placed
from runrows.sheets import Book, Input, Row, Sheet, Use
from runrows.texts import written
from runrows.timed import Before, Held, Led, When
from tests.expansion import expanded
from tests.helper import letters, refused

ONE, YES = Given(1), Given(True)


def any_part(chance, names, truths):
    """A part in which some of these names stand, whatever their kinds."""
    name, other = Named(chance.choice(names)), Named(chance.choice(names))
    parts = [ONE, name, Turned(name), Pair("<=", name, other), Choice(YES, name, other), Before(name, 3), Led(name, other)]
    if truths:
        parts.extend([When(Turned(name), chance.choice(truths)), Held(Pair("or", name, other), chance.choice(truths))])
    return chance.choice(parts)


def any_sheet(chance, name, ahead):
    """A sheet with uses of some of those ahead."""
    pool = "a b p p.a p.b a.b a.p b.a c d e f g h".split()
    chance.shuffle(pool)
    inputs = [Input(pool.pop(), chance.choice(["truth", "number", (0, 3)])) for at in range(chance.randrange(3))]
    shapes = []
    for at in range(chance.randrange(1, 5)):
        module = chance.choice(ahead) if ahead and chance.random() < 0.6 else None
        if module is None or len(pool) < len(module.outputs):
            shapes.append((None, [pool.pop()], chance.choice(["truth", "number"])))
        else:
            shapes.append((module, [pool.pop() for output in module.outputs], None))
    names = [line.name for line in inputs] + [bind for shape in shapes for bind in shape[1]]
    truths = [line.name for line in inputs if line.kind == "truth"]
    lines, free = [], [line.name for line in inputs]
    for module, binds, kind in shapes:
        on = chance.choice(truths) if truths and chance.random() < 0.3 else None
        if module is None:
            lines.append(Row(binds[0], kind, any_part(chance, names, truths), on))
            truths.extend(binds if kind == "truth" else [])
        else:
            lines.append(Use(binds, module.name, [any_part(chance, names, truths) for line in module.inputs], on))
        free.extend(binds if on is None else [])
    outputs = chance.sample(free, min(len(free), chance.randrange(1, 4))) or [names[0]]
    chance.shuffle(lines)
    return Sheet(name, inputs, outputs, lines)


def may_be_used(sheet):
    return all(sheet.line(name).on is None for name in sheet.outputs)


def any_book(chance):
    sheets = []
    for name in letters(chance.randrange(1, 7)):
        ahead = [sheet for sheet in sheets if may_be_used(sheet)]
        sheets.append(any_sheet(chance, name, ahead[-3:]))
    return Book(sheets)


class AnyBooks(unittest.TestCase):
    def test_many_books(self):
        ended = {}
        for seed in range(1500):
            book = any_book(random.Random(seed))
            expected = expanded(written(book))
            if expected in ("TooMany", "NoSheet"):
                refused(self, {"TooMany": TooMany, "NoSheet": NoSheet}[expected], placed, book)
            else:
                self.assertEqual(written(Book([placed(book)])), expected, written(book))
            word = expected if expected in ("TooMany", "NoSheet") else "placed"
            ended[word] = ended.get(word, 0) + 1
        # The sample is of use only if it has many of each.
        self.assertGreater(min(ended.get(word, 0) for word in ("placed", "NoSheet", "TooMany")), 20, ended)
