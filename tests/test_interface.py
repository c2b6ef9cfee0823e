import ast
import inspect
import pathlib
import unittest

import runrows
from runrows import beats, boxes, cutting, kinds, machines, moves, needs, orders, placing, plain, sheets, texts, trees
from runrows.parts import Given, Turned

FOLDER = pathlib.Path(runrows.__file__).parent
STAGES = (
    ("errors", "names", "parts", "timed", "trees"), ("sheets", "cutting", "texts"), ("placing",), ("kinds", "beats"),
    ("needs", "orders"), ("plain",), ("moves", "boxes", "machines"),
)
ARGUMENTS = (
    (trees.part_of, ["told"]), (trees.part_at, ["part", "place"]), (cutting.part_by, ["text"]),
    (texts.written, ["book"]), (texts.read, ["text"]),
    (sheets.Input, ["name", "kind", "on"]), (sheets.Row, ["name", "kind", "part", "on"]),
    (sheets.Use, ["binds", "module", "parts", "on"]), (sheets.Sheet, ["name", "inputs", "outputs", "lines"]),
    (sheets.Sheet.names, ["self"]), (sheets.Sheet.line, ["self", "name"]),
    (sheets.Book, ["sheets"]), (sheets.Book.main, ["self"]), (sheets.Book.sheet_of, ["self", "name"]),
    (placing.placed, ["book"]), (kinds.kinds_of, ["sheet"]), (kinds.filled, ["sheet"]), (beats.beats_of, ["sheet"]),
    (beats.parting, ["one", "other"]), (needs.needs_of, ["sheet"]), (orders.order, ["sheet"]),
    (orders.is_order, ["sheet", "names"]), (plain.need_step, ["sheet", "step"]), (moves.moves_of, ["sheet"]),
    (boxes.shared, ["begins", "moves", "outs"]), (boxes.crowd, ["sheet"]), (machines.made, ["sheet"]),
    (machines.Running, ["machine"]), (machines.Running.step, ["self", "values"]), (machines.Running.state, ["self"]),
    (machines.Running.put, ["self", "state"]),
)


def drawn_from(file):
    tree = ast.parse((FOLDER / f"{file}.py").read_text(encoding="utf-8"))
    return [node.module.split(".")[1] for node in ast.walk(tree) if isinstance(node, ast.ImportFrom)]


class Interface(unittest.TestCase):
    def test_arguments(self):
        for made, names in ARGUMENTS:
            parameters = inspect.signature(made).parameters
            self.assertEqual(list(parameters), names, made)
            for name in names:
                self.assertIs(parameters[name].default, None if name == "on" else inspect.Parameter.empty, made)

    def test_an_argument_that_may_be_left_out(self):
        parameters = inspect.signature(plain.plain).parameters
        self.assertEqual(list(parameters), ["sheet", "steps", "names"])
        empty = inspect.Parameter.empty
        self.assertEqual([parameters[name].default for name in parameters], [empty, empty, None])

    def test_arguments_by_their_names(self):
        part = trees.part_of(told=("not", ("given", True)))
        self.assertIs(type(trees.part_at(part=part, place=(0,))), Given)
        self.assertIs(type(cutting.part_by(text="(not yes)")), Turned)
        text = "module one\nout a\nrow a truth = yes\nend\n"
        book = texts.read(text=text)
        self.assertEqual(texts.written(book=book), text)
        self.assertEqual(book.sheet_of(name="one").line(name="a").kind, "truth")

    def test_the_package_itself_binds_nothing(self):
        self.assertEqual((FOLDER / "__init__.py").read_text(encoding="utf-8"), "")

    def test_each_file_has_its_stage(self):
        files = [path.stem for path in FOLDER.glob("*.py") if path.stem != "__init__"]
        self.assertEqual(sorted(files), sorted(file for stage in STAGES for file in stage))

    def test_files_draw_from_none_of_later_stages(self):
        allowed = []
        for files in STAGES:
            allowed.extend(files)
            for file in files:
                for other in drawn_from(file):
                    self.assertIn(other, allowed, file)
