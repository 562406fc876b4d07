"""Rules for the code of the package that can be seen in its files."""

import ast
import builtins
import pathlib
import re
import unittest

FOLDER = pathlib.Path(__file__).resolve().parent.parent / "layerseen"
TEXTS = {path.stem: path.read_text() for path in sorted(FOLDER.glob("*.py"))}
TREES = {name: ast.parse(text) for name, text in TEXTS.items()}

BUILTINS = set(
    "len range enumerate zip min max sum abs sorted reversed int str bool list tuple dict set isinstance ord repr any all "
    "divmod iter next Exception ValueError TypeError KeyError IndexError LookupError property staticmethod classmethod "
    "NotImplemented super map".split()
)
METHODS = set(
    "append clear copy count endswith extend find get index insert isalnum isalpha isdigit islower isspace isupper items join "
    "keys ljust lower lstrip partition pop remove replace reverse rfind rjust rpartition rsplit rstrip setdefault split "
    "splitlines startswith strip update upper values zfill bit_length".split()
)
BARRED = set(
    "type typing typing_extensions enum Enum IntEnum StrEnum Flag IntFlag Generic Protocol ABC ABCMeta namedtuple NamedTuple "
    "TypedDict TYPE_CHECKING abstractmethod register mro elements open input law version_info global eval exec".split()
)
LIBRARY = set("gcd lcm isqrt comb perm factorial".split())
INTERFACE = {
    "errors": "LayerError BadName BadWord BadNumber BadDeed BadProgram BadHandler BadStack BadWish BadTalk BadSample BadBook "
              "BadText BadLine NoName NoPlace Taken Unfit Unlike TooMany NoChange",
    "names": "is_name is_word fresh",
    "programs": "Deed Simple Blocked Put Copy Say Fail Leave Stop If Catch Choose Program",
    "handlers": "Handler Named Keeping Turning Cell Log Failure Choice",
    "stacks": "Stack",
    "ends": "End ends_text",
    "player": "ends trace",
    "compared": "Exchanges Parting compare crossed way led parting_of partings shows_exchanges shows_parting",
    "classes": "layers normal many_in many_classes classes class_at class_index turned beside class_way shows_class_way",
    "talks": "Event Ended Failed Broke Stopped Over Talk starts replies",
    "tables": "Table table shows_table",
    "likeness": "alike Same Apart meet",
    "look_likeness": "shows_alike",
    "where": "Where where shows_where groups shown Rule rules",
    "slim": "Slim idle slimmed shows_slim",
    "bench": "Bench",
    "texts": "bench_text",
    "reader": "read_bench read_ends",
    "desk": "Desk",
    "told": "Sample fitting sure parts fewest told_back Told shows_told",
    "wishes": "Wish Wishes Ring Near stack_for shows_ring nearest shows_near",
}


def nodes(kind):
    """All nodes of a kind, with the name of their file."""
    return [(name, node) for name, tree in TREES.items() for node in ast.walk(tree) if isinstance(node, kind)]


def defined(tree):
    """The names of the functions and classes that a file defines."""
    return [node.name for node in tree.body if isinstance(node, (ast.FunctionDef, ast.ClassDef))]


def imported(tree):
    """The pairs of a file and a name that are imported, from the package or from the library."""
    return [
        (node.module.split(".")[-1], part.name) for node in tree.body if isinstance(node, ast.ImportFrom) for part in node.names
    ]


def bound_in(function):
    """The parameters and local variables of a function."""
    names = [part.arg for part in ast.walk(function.args) if isinstance(part, ast.arg)]
    return names + [
        part.id for part in ast.walk(function) if isinstance(part, ast.Name) and isinstance(part.ctx, ast.Store)
    ]


def is_plain(node):
    """Whether a value surely is a number or a string, or a row of such."""
    if isinstance(node, ast.Call) and isinstance(node.func, ast.Name):
        return node.func.id in ["int", "len", "str"] or node.func.id == "set" and is_plain(node.args[0])
    if isinstance(node, ast.BinOp):
        return is_plain(node.left) and is_plain(node.right)
    return isinstance(node, ast.Constant) or isinstance(node, ast.ListComp) and is_plain(node.elt)


class FilesTest(unittest.TestCase):
    def test_the_folder_holds_nothing_else(self):
        found = [path.name for path in FOLDER.iterdir() if path.name != "__pycache__"]
        self.assertEqual(sorted(found), sorted(f"{name}.py" for name in TEXTS))
        for name in TEXTS:
            self.assertRegex(name, "^(__init__|[a-z_]+)$")
            self.assertNotIn(name, dir(builtins))

    def test_sizes_and_characters(self):
        for name, text in TEXTS.items():
            self.assertLess(len(text.split("\n")), 401, name)
            self.assertLessEqual(max(map(len, text.split("\n"))), 120, name)
            self.assertRegex(text, "\\A[ -~\n]*\\Z", name)
        for name, node in nodes(ast.FunctionDef):
            self.assertLessEqual(node.end_lineno - node.lineno + 1, 40, node.name)

    def test_the_interface_is_defined_in_its_files(self):
        for name, words in INTERFACE.items():
            self.assertLessEqual(set(words.split()), set(defined(TREES[name])), name)


class ImportsTest(unittest.TestCase):
    def test_each_import_names_the_file_that_defines_the_name(self):
        for name, node in nodes((ast.Import, ast.ImportFrom)):
            self.assertIsInstance(node, ast.ImportFrom)
            self.assertIn(node, TREES[name].body)
            self.assertRegex(node.module, "^(layerseen\\.[a-z_]+|math)$")
            self.assertEqual(node.level, 0)
        for name, tree in TREES.items():
            for file, word in imported(tree):
                self.assertGreater(len(re.findall(rf"\b{word}\b", TEXTS[name])), 1, f"{name} does not use {word}")
                if file == "math":
                    self.assertIn(word, LIBRARY)
                    continue
                values = [
                    target.id for node in TREES[file].body if isinstance(node, ast.Assign) for target in node.targets
                ]
                self.assertIn(word, defined(TREES[file]) + values, name)

    def test_what_the_library_gives_is_called_on_the_spot(self):
        called = [node.func for name, node in nodes(ast.Call)]
        for name, node in nodes(ast.Name):
            if node.id in LIBRARY:
                self.assertIn(node, called, name)

    def test_no_files_import_from_each_other(self):
        left = {name: {file for file, word in imported(tree)} - {"math"} for name, tree in TREES.items()}
        while left:
            free = [name for name, files in left.items() if not files & set(left)]
            self.assertTrue(free, left)
            left = {name: files for name, files in left.items() if name not in free}


class NamesTest(unittest.TestCase):
    def test_module_level(self):
        for name, tree in TREES.items():
            for node in tree.body:
                if isinstance(node, ast.Expr):
                    self.assertIsInstance(node.value, ast.Constant)
                else:
                    self.assertIsInstance(node, (ast.ImportFrom, ast.FunctionDef, ast.ClassDef, ast.Assign), name)
            bound = defined(tree) + [word for file, word in imported(tree)]
            self.assertEqual(len(bound), len(set(bound)), name)

    def test_no_name_of_a_builtin_class_or_import_is_given_another_meaning(self):
        for name, tree in TREES.items():
            classes = [node.name for node in tree.body if isinstance(node, ast.ClassDef)]
            taken = {*classes, *[word for file, word in imported(tree)], *dir(builtins)}
            for node in ast.walk(tree):
                if isinstance(node, ast.FunctionDef):
                    self.assertEqual(set(bound_in(node)) & taken, set(), f"{name}: {node.name}")
            self.assertEqual(set(defined(tree)) & set(dir(builtins)), set())

    def test_builtins_and_barred_words(self):
        for name, node in nodes(ast.Name):
            if node.id in dir(builtins):
                self.assertIn(node.id, BUILTINS, name)
        for name, text in TEXTS.items():
            self.assertEqual(set(re.findall("[A-Za-z_]+", text)) & BARRED, set(), name)
        for name, node in nodes(ast.Constant):
            if isinstance(node.value, str):
                self.assertNotRegex(node.value, "%", name)

    def test_methods_of_values(self):
        own = {node.name for name, node in nodes(ast.FunctionDef)}
        for name, node in nodes(ast.Call):
            if isinstance(node.func, ast.Attribute):
                self.assertIn(node.func.attr, own | METHODS, name)
        self.assertEqual(own & METHODS, set())

    def test_no_name_is_a_method_and_an_attribute(self):
        attributes = {node.attr for name, node in nodes(ast.Attribute) if isinstance(node.ctx, ast.Store)}
        methods = {
            part.name for name, node in nodes(ast.ClassDef) for part in node.body if isinstance(part, ast.FunctionDef)
        }
        self.assertEqual(attributes & methods, set())


class StatementsTest(unittest.TestCase):
    def test_what_does_not_occur(self):
        # A class has __radd__ and others have __eq__: += and generator expressions are left out altogether.
        for name, node in nodes((ast.AugAssign, ast.GeneratorExp, ast.Global, ast.Set, ast.SetComp, ast.AnnAssign, ast.Lambda)):
            self.fail(f"{name}: {ast.unparse(node)}")
        for name, node in nodes(ast.ExceptHandler):
            for part in node.type.elts if isinstance(node.type, ast.Tuple) else [node.type]:
                self.assertIn(part.id, defined(TREES["errors"]))

    def test_sets_stand_in_sorted_or_len(self):
        allowed = [
            part for name, node in nodes(ast.Call) for part in node.args
            if isinstance(node.func, ast.Name) and node.func.id in ["sorted", "len"]
        ]
        for name, node in nodes(ast.Call):
            if isinstance(node.func, ast.Name) and node.func.id == "set":
                self.assertIn(node, allowed)

    def test_what_is_ordered_is_plain(self):
        # Stack and Wishes have an order that is no order of rows.
        for name, node in nodes(ast.Call):
            if isinstance(node.func, ast.Name) and node.func.id in ["sorted", "min", "max"]:
                keys = [ast.unparse(word.value) for word in node.keywords if word.arg == "key"]
                self.assertTrue(keys == ["str"] or any(is_plain(part) for part in node.args), ast.unparse(node))

    def test_generators_are_iterated_at_once(self):
        made = [
            (name, node) for name, node in nodes(ast.FunctionDef)
            if any(isinstance(part, (ast.Yield, ast.YieldFrom)) for part in ast.walk(node))
        ]
        names = [node.name for name, node in made]
        everything = [node.name for name, node in nodes(ast.FunctionDef)]
        self.assertTrue(all(everything.count(name) == 1 for name in names), names)
        heads = [node.iter for name, node in nodes((ast.For, ast.comprehension))]
        heads += [node.args[0] for name, node in nodes(ast.Call) if ast.unparse(node.func) in ["list", "tuple"]]
        heads += [node.value for name, node in nodes(ast.YieldFrom)]
        for name, node in nodes(ast.Call):
            called = node.func.attr if isinstance(node.func, ast.Attribute) else getattr(node.func, "id", None)
            if called in names:
                self.assertTrue(any(node is head for head in heads), ast.unparse(node))

    def test_what_texts_and_lengths_return(self):
        for name, node in nodes(ast.FunctionDef):
            for part in ast.walk(node):
                if isinstance(part, ast.Return) and node.name == "__len__":
                    self.assertEqual(part.value.func.id, "len")
                if isinstance(part, ast.Return) and node.name == "__str__":
                    self.assertRegex(ast.unparse(part.value), "^(f?['\"][^'\"]*['\"]|['\"][^'\"]*['\"]\\.join\\(.*\\))$")
            if node.name == "__init__":
                self.assertFalse([part for part in ast.walk(node) if isinstance(part, ast.Return)])
