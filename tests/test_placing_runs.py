import random
import unittest

from runrows.beats import beats_of
from runrows.kinds import kinds_of
from runrows.machines import Running, made
from runrows.orders import order
from runrows.parts import Given, Named
from runrows.placing import placed
from runrows.plain import plain
from runrows.sheets import Book, Input, Sheet, Use
from runrows.texts import read
from runrows.timed import Before, When
from tests.helper import exact

COUNTS = """\
module counts
in up -9..9
in go truth
out total
out odd
row total number = ((before total 5) + up)
row odd truth = ((before odd yes) = go)
row last number = (0 then (before (total - up)))
row some number on go = (before ((total when go) * 2))
row back number = (before (some held go -1))
row both truth on go = ((before go) when go)
end
"""
PAIRS = COUNTS + """\
module pairs
in a number
in t truth
out s
out r
use s r = counts a (not t)
row c truth = (s < 20)
use q y on c = counts (s when c) (before (r when c))
row hold number = (q held c)
row e truth on c = (y or ((before c) when c))
row few number on e = ((before (s when c)) when e)
end
"""
OF_COUNTS = COUNTS + """\
module main
in n number
in t truth
in z truth on t
out n
use a b = counts (before n) t
use c d on t = counts (n when t) z
use e f on z = counts ((n when t) when z) (d when z)
row g truth = (before (n < a))
use h i on g = counts 3 ((before b) when g)
row u number = (before (c held t))
end
"""
OF_PAIRS = PAIRS + """\
module main
in n -3..3
in t truth
out n
use a b on t = pairs (n when t) (before (t when t))
use c d = pairs (before n) (b held t)
end
"""
THREE_DEEP = """\
module tiny
in x number
out y
row y number = ((before y) + x)
row w number = (before (x * y) 3)
end
module mid
in x number
in t truth
out v
use v = tiny x
use u on t = tiny (v when t)
row k number = (u held t 9)
end
module outer
in x number
out v
row t truth = (x < 2)
use v = mid x (before t)
use w on t = mid (v when t) ((before (x when t)) < 3)
end
module main
in x number
in c truth
out c
use a = outer (before x)
use b on c = outer (a when c)
end
"""
WITHOUT_INPUTS = """\
module beat
out b
row b truth = (not (before b))
row n number on b = (0 then (1 + (before n)))
end
module main
in c truth
out d
use a on c = beat
use d = beat
row f truth = d
use e on f = beat
end
"""
TEXTS = (OF_COUNTS, OF_PAIRS, THREE_DEEP, WITHOUT_INPUTS)


def any_step(chance, sheet):
    step = []
    for line in sheet.inputs:
        if line.kind == "truth":
            step.append(chance.random() < 0.6)
        elif line.kind == "number":
            step.append(chance.choice([-128, -9, -2, -1, 0, 1, 2, 3, 7, 127]))
        else:
            step.append(chance.randint(*line.kind))
    return tuple(step)


def comes(line, now):
    return line.on is None or now.get(line.on) is True


def by_itself(sheets, module):
    """The sheet of a module alone; a part may have values beyond a stretch, so all numbers may come in."""
    names = [sheet.name for sheet in sheets]
    alone = placed(Book(sheets[:names.index(module) + 1]))
    inputs = [Input(line.name, "truth" if line.kind == "truth" else "number") for line in alone.inputs]
    return Sheet(alone.name, inputs, alone.outputs, alone.lines)


def run_machine(sheet, steps):
    running = Running(made(sheet))
    return [running.step(step) for step in steps]


class RunsAsByItself(unittest.TestCase):
    def check(self, sheets, steps):
        """Each use in the last of these sheets, held against the used module by itself. How many steps were so."""
        sheet = placed(Book(sheets))
        run = plain(sheet, steps)
        many = 0
        for use in sheets[-1].lines:
            if isinstance(use, Use):
                alone = by_itself(sheets, use.module)
                head = use.binds[0]
                within = [now for now in run if comes(use, now)]
                handed = [tuple(now[f"{head}.{line.name}"] for line in alone.inputs) for now in within]
                many += len(handed)
                for now, told in zip(within, plain(alone, handed), strict=True):
                    got = {name: now[f"{head}.{name}"] for name in alone.names() if f"{head}.{name}" in now}
                    self.assertEqual(exact(got), exact(told))
                    for bind, output in zip(use.binds, alone.outputs, strict=True):
                        self.assertEqual(exact(now[bind]), exact(told[output]))
                for now in run:
                    if not comes(use, now):
                        self.assertEqual([name for name in now if name.startswith(f"{head}.") or name in use.binds], [])
                self.check_machines(sheet, use, steps, alone, handed)
        return many

    def check_machines(self, sheet, use, steps, alone, handed):
        """The binds by the machine of the whole, at the steps at which they come: the outputs by that of the module."""
        told = run_machine(Sheet(sheet.name, sheet.inputs, use.binds, sheet.lines), steps)
        expected = run_machine(alone, handed)
        self.assertEqual(exact([list(now.values()) for now in told if now]),
                         exact([list(now.values()) for now in expected]))

    def test_the_samples_are_let_by(self):
        for text in TEXTS:
            book = read(text)
            for many in range(1, len(book.sheets) + 1):
                sheet = placed(Book(book.sheets[:many]))
                for look in (kinds_of, beats_of, order):
                    self.assertEqual(sorted(look(sheet)), sorted(sheet.names()))

    def test_each_use(self):
        for text in TEXTS:
            sheets = read(text).sheets
            for many in range(1, len(sheets) + 1):
                found = 0
                for seed in range(8):
                    chance = random.Random(seed)
                    found += self.check(sheets[:many], [any_step(chance, sheets[many - 1]) for at in range(25)])
                if any(isinstance(line, Use) for line in sheets[many - 1].lines):
                    self.assertGreater(found, 200)

    def test_a_use_that_comes_at_some_steps(self):
        text = """\
module sums
in x number
out s
row s number = ((before s) + x)
end
module main
in c truth
in n number
out t
use p on c = sums (n when c)
use q = sums n
row t number = (p held c -1)
end
"""
        steps = [(False, 5), (True, 1), (False, 50), (True, 2), (True, 3), (False, 9)]
        run = plain(placed(read(text)), steps)
        self.assertEqual([now.get("p") for now in run], [None, 1, None, 3, 6, None])
        self.assertEqual([now["t"] for now in run], [-1, 1, 1, 3, 6, 6])
        self.assertEqual([now["q"] for now in run], [5, 6, 56, 58, 61, 70])

    def test_used_once_and_several_times(self):
        module = read(COUNTS).main()
        chance = random.Random(1)
        inputs = [Input("n", (-9, 9)), Input("t", "truth"), Input("c", "truth"), Input("d", "truth", "c")]
        at_all = [Use([f"a{one}", f"b{one}"], "counts", [Named("n"), Named("t")]) for one in "xyz"]
        on_c = [Use([f"e{one}", f"f{one}"], "counts", [When(Named("n"), "c"), Named("d")], "c") for one in "xyz"]
        on_d = [Use([f"g{one}", f"h{one}"], "counts", [Given(2), Before(Named(f"h{one}"), True)], "d") for one in "xyz"]
        steps = [any_step(chance, Sheet("main", inputs, ["n"], at_all)) for at in range(40)]
        for uses in (at_all[:1], on_c[:1], on_d[:1], at_all, on_c, on_d, [at_all[0], on_c[0], on_d[0]]):
            self.assertGreater(self.check((module, Sheet("main", inputs, ["n"], uses)), steps), 5 * len(uses))

    def test_the_same_at_each_step_without_an_on(self):
        module = read(COUNTS).main()
        inputs = [Input("n", (-9, 9)), Input("t", "truth")]
        main = Sheet("main", inputs, ["a", "b"], [Use(["a", "b"], "counts", [Named("n"), Named("t")])])
        steps = [any_step(random.Random(seed), main) for seed in range(40)]
        told = run_machine(placed(Book([module, main])), steps)
        expected = run_machine(placed(Book([module])), steps)
        self.assertEqual(exact([tuple(now.values()) for now in told]), exact([tuple(now.values()) for now in expected]))
