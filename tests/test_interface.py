"""The modules of the interface, what each defines, and the form of the files of the package."""

import ast
import pathlib
import unittest

import movedround

FOLDER = pathlib.Path(movedround.__file__).parent
INTERFACE = {
    "errors": "MoveError",
    "dials": "places plus less total times turn_of halves whole",
    "shifts": "part_of parts shifts renaming is_renaming",
    "dealings": "ends is_dealing row_of is_dealing_of dealing",
    "passing": "passing key_of exchanged row_path",
    "manydealings": "arrangements dealings_many beginning_many all_dealings dealing_at index_of rows_many",
    "balances": "is_even balance",
    "behind": "still behind undone shifted sent_on renamed rounds swaps",
    "changes": "differ changes path pool is_pool least_most",
    "exchanges": "is_exchange exchange_path split is_split leads",
    "unlike": "is_unlike unlike missed is_near near",
    "weighings": "is_weighing weighings weighed plain_bar square_bar",
    "sides": "triples side beside are_alike likes kinds",
    "manyunlike": "unlike_dealings unlike_many unlike_that nears",
    "straight": "is_straight straights multiplied seen_from",
    "apart": "are_apart onward is_bundle rebundled joins greatest multiples",
    "bothways": "is_both thirds both boths quarter",
    "mutual": "from_rounds is_mutual mutuals",
    "meetings": "meetings is_plan is_strong strongs",
    "walks": "is_tour is_walk steps walk walks",
    "swings": "walked_back turned_about swung renamed_walk",
    "fairtours": "is_fair fair_tour fair_tours fair_many",
    "lifts": "halved halved_place is_mirrored half_tour lifts mirrored_many",
    "roundwalks": "is_round_walk round_walk round_walks left_out rotated led route_of",
    "bymoves": "is_trip trip trips_many stuck_trip is_stuck_trip crowded",
    "fullrounds": "is_full_round full_round full_counts",
    "neighbours": "sums side_by_side stacked is_neighbourly neighbourly tables are_tables",
    "lots": "is_lot is_lot_row lot_ends is_seating lot_shifted lot_parted",
    "seatings": "seating seatings_many part_bar all_but",
    "stuck": "stuck is_stuck",
    "wished": "wished goals_reached seated_on",
    "twomoves": "trains two_many two_seating",
    "groups": "Group after back turns commutes group_of polygon group_from part_from mixed_part",
    "shades": "shade is_shade comes_to_nothing order_to is_order_to heavy",
    "mixings": "mixing is_mixing mixings_many moved_mixing joined_mixing group_dealing barred_row",
    "squares": "is_square square surplus switched",
    "cuts": "is_cut cuts surplus_total",
    "mates": "is_parting parting are_mates mate parting_by shift_parting squares_of",
    "hall": "Hall",
    "onekey": "is_handing left_by often leavers handing",
    "leaving": "leavable seating_without",
    "texts": "hall_text read_hall",
}
LIBRARY = {"math"}


def tree(name):
    return ast.parse((FOLDER / f"{name}.py").read_text(encoding="utf-8"))


def imported(name):
    """The pairs (module, name) that a file imports."""
    return [(node.module, alias.name) for node in tree(name).body if isinstance(node, ast.ImportFrom)
            for alias in node.names]


def defined(name):
    return [node.name for node in tree(name).body if isinstance(node, (ast.FunctionDef, ast.ClassDef))]


MODULES = sorted(path.stem for path in FOLDER.glob("*.py"))


class Interface(unittest.TestCase):

    def test_each_name_is_defined_in_its_file(self):
        for module, names in INTERFACE.items():
            self.assertLessEqual(set(names.split()), set(defined(module)), module)

    def test_init_defines_nothing(self):
        self.assertEqual(tree("__init__").body, [])

    def test_each_imports_only_from_those_before_it(self):
        """In one order of all modules, with the further ones among them, that keeps the order of the interface."""
        needs = {name: {module.partition(".")[2] for module, _ in imported(name) if module not in LIBRARY}
                 for name in MODULES}
        order = list(INTERFACE)
        for name in MODULES:
            reached = [name]
            for module in reached:
                reached += sorted(needs[module] - set(reached))
            self.assertFalse([module for other in reached[1:] for module in needs[other] if module == name], name)
            if name in order:
                later = set(order[order.index(name):])
                self.assertFalse(later & set(reached[1:]), name)

    def test_imports_name_the_file_that_defines(self):
        for name in MODULES:
            for module, what in imported(name):
                if module not in LIBRARY:
                    self.assertEqual(module.partition(".")[0], "movedround")
                    self.assertIn(what, defined(module.partition(".")[2]), name)
            self.assertFalse([node for node in ast.walk(tree(name)) if isinstance(node, ast.Import)])


class Form(unittest.TestCase):

    def test_the_folder_has_nothing_but_its_files(self):
        others = [path.name for path in FOLDER.iterdir() if path.suffix != ".py" and path.name != "__pycache__"]
        self.assertEqual(others, [])

    def test_sizes_and_characters(self):
        for path in FOLDER.glob("*.py"):
            text = path.read_text(encoding="utf-8")
            lines = text.split("\n")
            self.assertLessEqual(len(lines) - 1, 399, path.name)
            self.assertLessEqual(max(len(line) for line in lines), 120, path.name)
            self.assertTrue(all(sign == "\n" or " " <= sign <= "~" for sign in text), path.name)

    def test_functions_have_at_most_40_lines(self):
        for name in MODULES:
            for node in ast.walk(tree(name)):
                if isinstance(node, ast.FunctionDef):
                    self.assertLessEqual(node.end_lineno - node.lineno + 1, 40, f"{name}: {node.name}")

    def test_no_name_hides_an_import(self):
        for name in MODULES:
            names = {what for _, what in imported(name)}
            for node in ast.walk(tree(name)):
                if isinstance(node, ast.Name) and isinstance(node.ctx, ast.Store):
                    self.assertNotIn(node.id, names, name)
                if isinstance(node, ast.arg):
                    self.assertNotIn(node.arg, names, name)

    def test_nothing_that_the_language_leaves_out(self):
        barred = (ast.AsyncFunctionDef, ast.Await, ast.Global, ast.GeneratorExp, ast.Div, ast.With, ast.Nonlocal,
                  ast.Starred, ast.SetComp)
        for name in MODULES:
            for node in ast.walk(tree(name)):
                self.assertNotIsInstance(node, barred, name)
                if isinstance(node, ast.FunctionDef):
                    self.assertEqual(node.decorator_list, [])
                if isinstance(node, ast.Try):
                    self.assertEqual([ast.unparse(each.type) for each in node.handlers], ["MoveError"], name)
