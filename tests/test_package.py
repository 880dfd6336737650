"""The shape of the package: the interface of the document, and rules of the language that a test can see."""

import ast
import inspect
import unittest
from importlib import import_module
from pathlib import Path

FOLDER = Path(__file__).resolve().parent.parent / "poolsmeet"
FILES = sorted(FOLDER.rglob("*.py"))

ERRORS = {
    "PoolError": None, "InvalidNumber": ["value"], "InvalidDrop": ["index"], "InvalidTime": ["time"],
    "InvalidText": ["line"], "InvalidCommand": None, "Full": ["limit"], "MissingDrop": ["spot", "amount"],
    "Touching": ["index"], "OutOfGround": ["spot"], "Overfull": ["total"], "TrialError": None,
    "UnknownIndex": ["index"],
}

# For each class its methods with their parameters, and its properties.
CLASSES = {
    ("ratios", "Ratio"): (
        {
            "__init__": ["self", "top", "bottom"], "of": ["cls", "value"], "read": ["cls", "text"],
            "over": ["self", "other"],
            **{name: ["self", "other"] for name in (
                "__add__", "__radd__", "__sub__", "__rsub__", "__mul__", "__rmul__", "__floordiv__", "__mod__",
                "__eq__", "__ne__", "__lt__", "__le__", "__gt__", "__ge__",
            )},
            **{name: ["self"] for name in ("__neg__", "__abs__", "__bool__", "__str__", "__repr__")},
        },
        ["is_whole", "floor"],
    ),
    ("pools", "Pool"): (
        {
            "__init__": ["self", "middle", "volume"], "between": ["cls", "left", "right"], "gap_to": ["self", "other"],
            "touches": ["self", "other"], "__contains__": ["self", "x"], "__eq__": ["self", "other"],
            "__add__": ["self", "other"],
            "__repr__": ["self"],
        },
        ["middle", "volume", "left", "right"],
    ),
    ("waters", "Water"): (
        {
            "__init__": ["self", "pools"], "settled": ["cls", "pools"], "pools": ["self"], "gaps": ["self"],
            "__call__": ["self", "spot"],
            **{name: ["self"] for name in ("__len__", "__bool__", "__abs__", "__neg__", "__str__", "__repr__")},
            **{name: ["self", "other"] for name in (
                "__add__", "__eq__", "__le__", "__lt__", "__ge__", "__gt__", "__rshift__", "__lshift__",
            )},
            "__getitem__": ["self", "at"], "__contains__": ["self", "x"],
        },
        ["volume", "left", "right"],
    ),
    ("rains", "Rain"): (
        {
            "__init__": ["self", "drops"], "read": ["cls", "text"], "__call__": ["self", "time"],
            **{name: ["self"] for name in ("__len__", "__bool__", "__abs__", "__neg__", "__str__", "__repr__")},
            **{name: ["self", "other"] for name in (
                "__add__", "__sub__", "__mul__", "__rmul__", "__eq__", "__rshift__", "__lshift__",
            )},
            "__contains__": ["self", "x"],
        },
        ["drops", "volume", "middle"],
    ),
    ("grounds", "Ground"): (
        {
            "__init__": ["self"], "filled": ["cls", "rain"], "pour": ["self", "spot", "volume"],
            "take": ["self", "spot", "volume"], "is_wet": ["self", "spot"],
            **{name: ["self"] for name in (
                "rain", "stretches", "dry", "undo", "changes", "trial", "__len__", "__repr__",
            )},
        },
        ["volume"],
    ),
    ("grounds", "Trough"): (
        {
            "__init__": ["self", "left", "right"], "filled": ["cls", "left", "right", "rain"],
            "pour": ["self", "spot", "volume"], "stretches": ["self"], "is_wet": ["self", "spot"], "dry": ["self"],
        },
        [],
    ),
    ("grounds", "Ring"): (
        {
            "__init__": ["self", "length"], "filled": ["cls", "length", "rain"], "turned": ["spot", "length"],
            "pour": ["self", "spot", "volume"], "take": ["self", "spot", "volume"], "stretches": ["self"],
            "is_wet": ["self", "spot"], "dry": ["self"],
        },
        [],
    ),
    ("desk", "Desk"): ({"__init__": ["self"], "say": ["self", "command"], "__len__": ["self"]}, []),
}

# For each module its functions with their parameters.
FUNCTIONS = {
    "layouts": {
        "settle": ["rain"], "groups": ["rain"], "berths": ["rain"], "shifts": ["rain"], "pushes": ["rain"],
        "work": ["rain"], "layout": ["rain"], "layout_holds": ["rain", "value"],
    },
    "steady": {"runnings": ["rain"], "joined_from": ["rain", "one", "other"], "wet_from": ["rain", "spot"]},
    "plans": {"least_volume": ["rain", "spot", "one", "other"], "room_at": ["water", "spot"]},
    "grounds": {"within": ["trial", "deed"], "attempt": ["ground", "steps"]},
}

BARRED_WORDS = {
    "type", "typing", "typing_extensions", "enum", "Enum", "IntEnum", "StrEnum", "Flag", "IntFlag", "Generic",
    "Protocol", "ABC", "ABCMeta", "namedtuple", "NamedTuple", "TypedDict", "TYPE_CHECKING", "abstractmethod",
}


def named(module):
    return import_module(f"poolsmeet.{module}")


def trees():
    return [(path.name, ast.parse(path.read_text(encoding="utf-8"))) for path in FILES]


def nodes(*kinds):
    return [(name, node) for name, tree in trees() for node in ast.walk(tree) if isinstance(node, kinds)]


class Interface(unittest.TestCase):
    def test_init_contains_only_a_docstring(self):
        body = ast.parse((FOLDER / "__init__.py").read_text()).body
        self.assertEqual(len(body), 1)
        self.assertIsInstance(ast.literal_eval(body[0].value), str)

    def test_the_errors_take_the_documented_arguments(self):
        for name, parameters in ERRORS.items():
            made = getattr(named("errors"), name)
            self.assertEqual(made.__module__, "poolsmeet.errors")
            if parameters is not None:
                self.assertEqual(inspect.getfullargspec(vars(made)["__init__"]).args, ["self", *parameters])

    def test_classes_define_their_own_methods(self):
        for (module, name), (methods, properties) in CLASSES.items():
            made = getattr(named(module), name)
            self.assertEqual(made.__module__, f"poolsmeet.{module}")
            for method, parameters in methods.items():
                with self.subTest(name, method=method):
                    found = vars(made)[method]
                    found = getattr(found, "__func__", found)
                    self.assertEqual(inspect.getfullargspec(found).args, parameters)
            for attribute in properties:
                with self.subTest(name, property=attribute):
                    self.assertIsInstance(vars(made)[attribute], property)

    def test_the_trial_has_its_own_methods(self):
        trial = named("grounds").Ground().trial()
        self.assertEqual(type(trial).__module__, "poolsmeet.grounds")
        for method in ("keep", "__enter__", "__exit__"):
            self.assertIn(method, vars(type(trial)))
        self.assertIn("is_open", vars(trial))

    def test_class_and_static_methods(self):
        for module, name, method, kind in [
            ("ratios", "Ratio", "of", classmethod), ("ratios", "Ratio", "read", classmethod),
            ("pools", "Pool", "between", classmethod), ("waters", "Water", "settled", classmethod),
            ("rains", "Rain", "read", classmethod), ("grounds", "Ground", "filled", classmethod),
            ("grounds", "Trough", "filled", classmethod), ("grounds", "Ring", "filled", classmethod),
            ("grounds", "Ring", "turned", staticmethod),
        ]:
            self.assertIs(type(vars(getattr(named(module), name))[method]), kind)

    def test_functions_are_defined_in_their_modules(self):
        for module, functions in FUNCTIONS.items():
            for name, parameters in functions.items():
                with self.subTest(name):
                    found = vars(named(module))[name]
                    self.assertEqual(found.__module__, f"poolsmeet.{module}")
                    self.assertEqual(inspect.getfullargspec(found).args, parameters)


class Language(unittest.TestCase):
    def test_the_folder_holds_python_files_only(self):
        found = [path for path in FOLDER.rglob("*") if path.is_file() and "__pycache__" not in path.parts]
        self.assertEqual(sorted(found), FILES)

    def test_characters_and_sizes(self):
        for path in FILES:
            text = path.read_text(encoding="utf-8")
            self.assertTrue(all(" " <= sign <= "~" or sign == "\n" for sign in text), path)
            lines = text.splitlines()
            self.assertLessEqual(len(lines), 399, path)
            self.assertLessEqual(max(map(len, lines)), 120, path)

    def test_functions_are_short(self):
        for name, node in nodes(ast.FunctionDef):
            self.assertLessEqual(node.end_lineno - node.lineno + 1, 40, (name, node.name))

    def test_imports_are_from_the_package_or_the_listed_library(self):
        self.assertEqual(nodes(ast.Import), [])
        for name, node in nodes(ast.ImportFrom):
            self.assertEqual(node.level, 0, name)
            listed = node.module in ("math", "heapq", "itertools", "collections")
            self.assertTrue(listed or node.module.startswith("poolsmeet."), name)

    def test_no_percent_sign_and_no_float_in_a_literal(self):
        for name, node in nodes(ast.Constant):
            self.assertNotIsInstance(node.value, float, name)
            self.assertNotIsInstance(node.value, complex, name)
            self.assertNotIn("%", str(node.value), name)
        self.assertEqual(nodes(ast.Div), [])

    def test_no_barred_statement(self):
        barred = ast.Global, ast.AsyncFunctionDef, ast.AsyncFor, ast.AsyncWith, ast.Await
        self.assertEqual(nodes(*barred), [])

    def test_sorted_takes_plain_integers_and_min_and_max_are_not_used(self):
        # Ratio has an order of its own, and no key by which these functions may use it.
        for name, node in nodes(ast.Call):
            word = getattr(node.func, "id", None)
            self.assertNotIn(word, ("min", "max"), name)
            if word == "sorted":
                self.assertEqual(ast.unparse(node.args[0].elt.func), "int", name)

    def test_the_end_of_a_block_asks_nothing(self):
        found = [node for _, node in nodes(ast.FunctionDef) if node.name == "__exit__"]
        self.assertEqual(len(found), 1)
        self.assertTrue(all(isinstance(row, ast.Assign) for row in found[0].body))

    def test_no_file_imports_in_a_circle(self):
        needs = {path.stem: set() for path in FILES}
        for name, node in nodes(ast.ImportFrom):
            if node.module.startswith("poolsmeet."):
                needs[name.removesuffix(".py")].add(node.module.removeprefix("poolsmeet."))
        while needs:
            free = {name for name, others in needs.items() if not others & set(needs)}
            self.assertTrue(free, needs)
            needs = {name: others for name, others in needs.items() if name not in free}

    def test_no_barred_word(self):
        for name, node in nodes(ast.Name, ast.Attribute, ast.arg, ast.FunctionDef, ast.ClassDef):
            word = getattr(node, "id", None) or getattr(node, "attr", None) or getattr(node, "arg", None) or node.name
            self.assertNotIn(word, BARRED_WORDS, name)


if __name__ == "__main__":
    unittest.main()
