"""The rules of LANGUAGE.md that a walk over the code can see, kept narrower where this is plainer to check."""

import ast
import builtins
import pathlib
import re
import unittest

ROOT = pathlib.Path(__file__).resolve().parent.parent
PACKAGE = ROOT / "tipwoods"
FILES = sorted(PACKAGE.glob("*.py"))
TREES = {path.stem: ast.parse(path.read_text(encoding="utf-8")) for path in FILES}

STATEMENTS = (
    ast.Module, ast.FunctionDef, ast.ClassDef, ast.Import, ast.ImportFrom, ast.Assign, ast.AugAssign, ast.If, ast.While,
    ast.For, ast.Return, ast.Break, ast.Continue, ast.Pass, ast.Raise, ast.Assert, ast.Delete, ast.Expr, ast.Try,
)
VALUES = (
    ast.Constant, ast.Name, ast.Attribute, ast.Subscript, ast.Slice, ast.Call, ast.Starred, ast.List, ast.Tuple,
    ast.Dict, ast.ListComp, ast.DictComp, ast.BinOp, ast.UnaryOp, ast.BoolOp, ast.Compare, ast.IfExp, ast.JoinedStr,
    ast.FormattedValue,
)
BUILTINS = """len range enumerate zip min max sum abs sorted reversed int str bool list tuple dict isinstance ord
    repr any all divmod set super property Exception ValueError KeyError IndexError""".split()
METHODS = """append clear copy count endswith extend find get index insert isalnum isalpha isdigit islower isspace
    isupper items join keys ljust lower lstrip partition pop remove replace reverse rfind rjust rpartition rsplit rstrip
    setdefault split splitlines startswith strip update upper values zfill bit_length __init__""".split()
WORDS = """type typing typing_extensions enum Enum IntEnum StrEnum Flag IntFlag Generic Protocol ABC ABCMeta namedtuple
    NamedTuple TypedDict TYPE_CHECKING abstractmethod dataclass overload contextmanager _wall _WallAttr register mro
    elements open input law version_info with_traceback add_note""".split()
ERRORS = """BushError InvalidBush InvalidGrowths InvalidRoad InvalidNumber TooMany InvalidNames InvalidText InvalidStore
    NoKnot InvalidLongRow InvalidRuns InvalidBunch InvalidCounts InvalidWords InvalidGrafts InvalidMixed InvalidMixedRow
    InvalidStock InvalidHeard InvalidLog InvalidLetter InvalidDepth NothingToUndo NothingToRedo"""
INTERFACE = {
    "errors": ERRORS,
    "bushes": "is_bush are_growths knots_of tips_of near_depth height_of widths_of",
    "roads": "part_at tip_roads tip_road tip_number unlike_road",
    "growing": "grown grown_by grown_on bush_of",
    "rowcounts": "row_counts can_be_drawn",
    "bushparts": "letter_counts standing_roads count_standing count_unlike_parts greatest_twin",
    "bushturns": "mirrored_bush mirrored_road is_own_mirror renamed_bush plain_bush names_between",
    "bushtexts": "bush_text row_text read_bush read_row",
    "bushnumbers": "count_bushes bush_at bush_index",
    "cuts": "cut_below cut_above cuts_of is_cut",
    "primes": "is_prime primes_of first_prime last_prime",
    "rowalikes": "row_primes rows_alike parting_prime",
    "primecounts": "bushes_counted primes_counted prime_list",
    "lastyears": "last_times regrown",
    "longrows": "is_long_row long_alike long_parting long_primes long_prime_at",
    "longcounts": "long_depths tips_modulo knots_modulo tips_whole unlike_parts",
    "longtips": "runs_of_tip tip_of_runs near_runs far_runs",
    "longroads": "spot_at unlike_way",
    "powers": "do_exchange root_of power_of common_root",
    "rounds": "round_bushes round_index led_over",
    "sharedyears": "shared_first shared_last put_between",
    "bunches": "is_bunch left_overs two_ways base_of",
    "bunchways": "count_ways least_way",
    "forms": "form_of alike_without_order unlike_form",
    "formcuts": "cut_sizes form_cut form_primes alike_rows",
    "turnedcopies": "count_copies all_copies copy_number row_copies",
    "tipclasses": "tip_classes class_sizes",
    "turnings": "own_mirror_row fewest_turns",
    "roadwords": "words_of road_letters_of depths_of",
    "roadsapart": "word_apart letters_apart depth_apart",
    "depthbushes": "can_have_depths fewest_by_depths bush_by_depths",
    "wordbushes": "can_have_words fewest_by_words bush_by_words",
    "depthcuts": "cut_by_depths depth_root tips_after",
    "grafts": "is_graft_row grafted need_of lot_of",
    "graftrows": "same_grafts apart_bush can_swap led_past",
    "graftwoods": "wood_of count_led are_led first_root",
    "tops": "count_knot_rows is_top lot_between count_tops common_top joined_tops clash_road",
    "mixedbushes": "is_mixed are_changes mixed_grown mixed_tips mixed_tip",
    "mixedalike": "grow_alike mixed_unlike",
    "mixedyears": "lots_of_years first_unlike tips_in_year undoing_change",
    "heardroads": "is_heard is_stock heard_of row_fits first_fitting count_fitting heard_so_far rows_fitting",
    "doubleroads": "each_road_tells double_road",
    "gardens": "is_log tended tended_on",
    "logforms": "log_form are_like_logs",
    "origins": "origin_of spared_deeds",
    "gardeners": "Gardener",
}
GARDENER = "year mirror rename cut undo redo attempt log standing __init__ __eq__ __len__"
DOUBLE_UNDERSCORES = ["__init__", "__eq__", "__len__"]


def nodes(kinds, tree=None):
    """The pairs of a file's name and a node of it of these kinds, of all files or of one tree."""
    trees = TREES.items() if tree is None else [("", tree)]
    return [(name, node) for name, top in trees for node in ast.walk(top) if isinstance(node, kinds)]


def docstrings(tree):
    holders = [node for _, node in nodes((ast.Module, ast.FunctionDef, ast.ClassDef), tree)]
    return [node.body[0].value for node in holders if ast.get_docstring(node) is not None]


def bound_names(tree):
    """All names that a file binds: functions, classes, parameters, imports, and variables."""
    found = [node.name for _, node in nodes((ast.FunctionDef, ast.ClassDef), tree)]
    found += [node.arg for _, node in nodes(ast.arg, tree)]
    found += [node.id for _, node in nodes(ast.Name, tree) if isinstance(node.ctx, ast.Store)]
    return found + [alias.name for _, node in nodes(ast.ImportFrom, tree) for alias in node.names]


class FilesTest(unittest.TestCase):
    def test_the_folder_holds_python_files_alone(self):
        names = [path.name for path in PACKAGE.iterdir() if path.name != "__pycache__"]
        self.assertEqual(sorted(names), [path.name for path in FILES])
        for name in names:
            self.assertRegex(name, r"^[a-z0-9_]+\.py$")

    def test_rows(self):
        for path in FILES:
            text = path.read_text(encoding="utf-8")
            self.assertRegex(text, r"\A[ -~\n]*\Z", path.name)
            rows = text.split("\n")
            self.assertLess(len(rows), 400, path.name)
            for row in rows:
                self.assertLessEqual(len(row), 120, (path.name, row))

    def test_functions_are_short(self):
        for name, node in nodes(ast.FunctionDef):
            self.assertLessEqual(node.end_lineno - node.lineno + 1, 40, (name, node.name))

    def test_the_interface_is_defined_where_it_is_listed(self):
        for name, listed in INTERFACE.items():
            found = [node.name for node in TREES[name].body if isinstance(node, (ast.FunctionDef, ast.ClassDef))]
            for word in listed.split():
                self.assertIn(word, found, name)

    def test_the_methods_of_the_interface_are_defined_in_the_class_itself(self):
        [gardener] = [node for _, node in nodes(ast.ClassDef, TREES["gardeners"])]
        found = [node.name for node in gardener.body if isinstance(node, ast.FunctionDef)]
        self.assertEqual(sorted(found), sorted(GARDENER.split() + ["_do"]))


class ImportsTest(unittest.TestCase):
    def test_imports_name_the_file_that_defines_the_name(self):
        self.assertEqual(nodes(ast.Import), [])
        for name, node in nodes(ast.ImportFrom):
            self.assertEqual(node.level, 0)
            self.assertTrue(all(alias.asname is None for alias in node.names))
            if node.module == "math":
                continue
            self.assertRegex(node.module, r"^tipwoods\.[a-z]+$", name)
            tree = TREES[node.module[len("tipwoods."):]]
            own = [found for found in bound_names(tree) if found not in self.imported(tree)]
            for alias in node.names:
                self.assertIn(alias.name, own, name)
                self.assertFalse(alias.name.startswith("_"), (name, alias.name))

    def imported(self, tree):
        return [alias.name for _, node in nodes(ast.ImportFrom, tree) for alias in node.names]

    def test_no_circles(self):
        left = {name: {node.module[9:] for _, node in nodes(ast.ImportFrom, tree) if node.module != "math"}
                for name, tree in TREES.items()}
        while left:
            free = [name for name in left if not left[name] & set(left)]
            self.assertTrue(free, left)
            left = {name: needs for name, needs in left.items() if name not in free}

    def test_imports_are_used_and_nothing_else_has_their_names(self):
        for name, tree in TREES.items():
            used = [node.id for _, node in nodes(ast.Name, tree)]
            bound = bound_names(tree)
            for word in self.imported(tree):
                self.assertIn(word, used, name)
                self.assertEqual(bound.count(word), 1, (name, word))


class CodeTest(unittest.TestCase):
    def test_statements_and_values(self):
        for name, node in nodes((ast.stmt, ast.expr)):
            self.assertIsInstance(node, STATEMENTS + VALUES, (name, node.lineno))
        self.assertEqual(nodes((ast.Div, ast.MatMult)), [])
        for name, node in nodes((ast.FunctionDef, ast.ClassDef)):
            told = [getattr(found, "id", None) for found in node.decorator_list]
            self.assertEqual(told, ["property"] if node.name in ("log", "standing") else [], name)

    def test_sets_stand_in_sorted_alone(self):
        for name, tree in TREES.items():
            held = [argument for _, call in nodes(ast.Call, tree) for argument in call.args
                    if getattr(call.func, "id", None) == "sorted"]
            for _, call in nodes(ast.Call, tree):
                if getattr(call.func, "id", None) == "set":
                    self.assertIn(call, held, (name, call.lineno))

    def test_what_a_try_does_at_last_is_plain(self):
        for name, node in nodes(ast.Try):
            self.assertEqual((node.handlers, node.orelse), ([], []), name)
            [choice] = node.finalbody
            self.assertRegex(ast.unparse(choice.test), r"^\w+ is None$", name)
            self.assertEqual(choice.orelse, [], name)
            for row in choice.body:
                self.assertRegex(ast.unparse(row), r"^self\.\w+ = \w+$", name)

    def test_names(self):
        for name, tree in TREES.items():
            for word in bound_names(tree):
                self.assertFalse(hasattr(builtins, word) and word not in DOUBLE_UNDERSCORES, (name, word))
                self.assertRegex(word, r"^(_|_?[A-Za-z][A-Za-z0-9_]*|__(init|eq|len)__)$", name)
            read = [node.id for _, node in nodes(ast.Name, tree) if isinstance(node.ctx, ast.Load)]
            self.assertNotIn("_", read, name)
            for word in read:
                if hasattr(builtins, word):
                    self.assertIn(word, BUILTINS, name)

    def test_own_methods_and_attributes(self):
        plain = [word for value in ("", 0, [], {}, (), b"", set()) for word in dir(value)]
        stored = [node.attr for _, node in nodes(ast.Attribute) if isinstance(node.ctx, ast.Store)]
        for name, holder in nodes(ast.ClassDef):
            for node in holder.body:
                if isinstance(node, ast.FunctionDef) and node.name not in DOUBLE_UNDERSCORES:
                    self.assertNotIn(node.name, plain + stored, name)
        for name, node in nodes(ast.Attribute):
            if isinstance(node.ctx, ast.Store):
                self.assertEqual(getattr(node.value, "id", None), "self", (name, node.lineno))
                self.assertNotIn(node.attr, plain, (name, node.lineno))

    def test_module_level_names_are_bound_once(self):
        for name, tree in TREES.items():
            words = []
            for node in tree.body:
                self.assertIsInstance(node, (ast.Expr, ast.ImportFrom, ast.Assign, ast.FunctionDef, ast.ClassDef), name)
                words += [node.name] if hasattr(node, "name") else []
                words += [target.id for target in getattr(node, "targets", [])]
                words += [alias.name for alias in getattr(node, "names", [])]
            self.assertEqual(sorted(words), sorted(set(words)), name)

    def test_methods(self):
        own = [node.name for _, holder in nodes(ast.ClassDef) for node in holder.body if hasattr(node, "name")]
        for name, node in nodes(ast.Call):
            if isinstance(node.func, ast.Attribute):
                self.assertIn(node.func.attr, METHODS + own, (name, node.lineno))
                self.assertEqual(node.keywords, [], (name, node.lineno))
            else:
                self.assertIsInstance(node.func, ast.Name, (name, node.lineno))

    def test_constants(self):
        for name, tree in TREES.items():
            told = [id(node) for node in docstrings(tree)]
            for _, node in nodes(ast.Constant, tree):
                self.assertIn(type(node.value), (int, str, bool, type(None)), (name, node.lineno))
                if isinstance(node.value, str):
                    self.assertNotIn("%", node.value, (name, node.lineno))
                    for word in re.findall(r"\w+", node.value if id(node) not in told else ""):
                        self.assertNotIn(word, WORDS, (name, node.lineno))
            for word in bound_names(tree) + [node.attr for _, node in nodes(ast.Attribute, tree)]:
                self.assertNotIn(word, WORDS, name)
            self.assertNotIn("\\", (PACKAGE / f"{name}.py").read_text(encoding="utf-8"), name)

    def test_is_stands_with_none_true_and_false_alone(self):
        for name, node in nodes(ast.Compare):
            for sign, right in zip(node.ops, node.comparators):
                if isinstance(sign, (ast.Is, ast.IsNot)):
                    self.assertIn(getattr(right, "value", 0), (None, True, False), (name, node.lineno))

    def test_errors_are_own_ones_made_on_the_spot(self):
        for name, node in nodes(ast.Raise):
            self.assertIsInstance(node.exc, ast.Call, (name, node.lineno))
            self.assertIn(node.exc.func.id, ERRORS.split(), (name, node.lineno))

    def test_exponents_are_small_literals(self):
        for name, node in nodes(ast.BinOp):
            if isinstance(node.op, ast.Pow):
                self.assertIsInstance(node.right, ast.Constant, (name, node.lineno))
                self.assertLessEqual(node.right.value, 64, (name, node.lineno))

    def test_what_a_loop_goes_over_is_not_changed_in_it(self):
        for name, node in nodes(ast.For):
            for _, call in nodes(ast.Call, ast.Module(body=node.body, type_ignores=[])):
                if isinstance(call.func, ast.Attribute) and isinstance(node.iter, ast.Name):
                    if call.func.attr in ("append", "extend", "pop", "insert", "remove", "clear", "update", "reverse"):
                        self.assertNotEqual(ast.dump(call.func.value), ast.dump(node.iter), (name, node.lineno))
