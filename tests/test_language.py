"""Point [2] and the rules of LANGUAGE.md that can be checked by looking at the files."""

import ast
import builtins
import os
import re
import unittest

from tests.support import OWN_ERRORS

PACKAGE = os.path.join(os.path.dirname(os.path.dirname(os.path.abspath(__file__))), "toldwhensure")

LIBRARY = {
    "heapq": {"heappush", "heappop", "heapify", "heapreplace", "heappushpop"},
    "math": {"gcd", "lcm", "isqrt", "comb", "perm", "factorial"},
    "itertools": {"product", "combinations", "permutations", "chain", "accumulate", "pairwise", "islice",
                  "zip_longest"},
    "collections": {"defaultdict"},
}
BUILTINS = set(
    "len range enumerate zip min max sum abs sorted reversed int str bool bytes list tuple dict set map "
    "frozenset isinstance ord repr any all divmod pow getattr hasattr setattr iter next super property "
    "staticmethod classmethod Exception ValueError TypeError KeyError IndexError LookupError "
    "ZeroDivisionError ArithmeticError OverflowError RuntimeError NotImplementedError AttributeError "
    "StopIteration NotImplemented object".split()
)
EVERY_BUILTIN = set(dir(builtins))
BARRED_WORDS = re.compile(
    r"\b(type|typing|typing_extensions|enum|Enum|IntEnum|StrEnum|Flag|IntFlag|Generic|Protocol|ABC|ABCMeta"
    r"|namedtuple|NamedTuple|TypedDict|TYPE_CHECKING|abstractmethod)\b|dataclass|overload|contextmanager|_wall"
)
BARRED_NAMES = {
    "register", "mro", "elements", "open", "input", "law", "version_info", "with_traceback", "add_note",
}
STATEMENTS_OUT = (ast.Global, ast.AsyncFunctionDef, ast.AsyncFor, ast.AsyncWith, ast.Await)
# The functions with their arguments; the classes have None, or their methods with the arguments of these.
INTERFACE = {
    "errors": {name: None for name in ("GatherError",) + OWN_ERRORS},
    "plans": {"check_plan": ["plan"], "meter_of": ["plan", "name"], "window_of": ["plan", "time"]},
    "letters": {"check_letter": ["plan", "letter"], "write_bag": ["letters"], "read_bag": ["plan", "text"]},
    "histories": {
        "is_history": ["plan", "history"],
        "is_true": ["letter", "history"],
        "agrees": ["history", "letters"],
        "reads_of": ["history"],
    },
    "plainly": {
        "readings": ["plan", "history", "meters", "window"],
        "value_of": ["aggregate", "values"],
        "plain_balance": ["plan", "history", "balance"],
        "plain_value": ["plan", "history", "aggregate", "meters", "window"],
    },
    "possible": {"is_possible": ["plan", "letters"]},
    "segments": {
        "offsets_left": ["plan", "letters", "name"],
        "segments_of": ["plan", "letters", "name"],
        "runs_of": ["plan", "letters", "name"],
        "inside": ["plan", "letters", "name", "offset", "window"],
    },
    "telling": {
        "told": ["plan", "letters", "aggregate", "meters", "window"],
        "is_final": ["aggregate", "answer"],
    },
    "witnesses": {
        "some_history": ["plan", "letters"],
        "witness": ["plan", "letters", "aggregate", "meters", "window", "end"],
    },
    "balances": {
        "told_balance": ["plan", "letters", "balance"],
        "balance_witness": ["plan", "letters", "balance", "end"],
    },
    "reaching": {"final_reach": ["plan", "letters", "aggregate", "meters", "first", "last"]},
    "condensing": {"condensed": ["plan", "letters"], "joined": ["plan", "one", "other"]},
    "folding": {
        "settled_slots": ["plan", "letters", "name"],
        "folded": ["plan", "letters"],
        "join_folded": ["plan", "one", "other"],
        "told_folded": ["plan", "form", "aggregate", "meters", "window"],
    },
    "gateways": {
        "Gateway": {
            "__init__": ["self", "plan"],
            "take": ["self", "letters"],
            "take_bundle": ["self", "form"],
            "bundle": ["self"],
        },
    },
    "sources": {
        "Source": {
            "__init__": ["self", "plan", "name", "offset"],
            "record": ["self", "stamp", "value"],
            "correct": ["self", "slot", "value"],
            "take_back": ["self", "slot"],
            "close": ["self", "stamp"],
            "check": ["self", "low", "high"],
            "log": ["self"],
            "due": ["self"],
            "acknowledge": ["self", "letter"],
        },
    },
    "lines": {
        "Line": {
            "__init__": ["self"],
            "send": ["self", "letters"],
            "waiting": ["self"],
            "deliver": ["self", "index"],
            "lose": ["self", "index"],
            "double": ["self", "index"],
        },
    },
    "alarms": {
        "check_alarm": ["plan", "alarm"],
        "rings_in": ["plan", "history", "alarm", "window"],
        "alarm_state": ["plan", "letters", "alarm", "window"],
    },
    "halls": {
        "Hall": {
            "__init__": ["self", "plan", "alarms"],
            "take": ["self", "letters"],
            "take_bundle": ["self", "form"],
            "told": ["self", "aggregate", "meters", "window"],
            "notes": ["self"],
            "acknowledge": ["self", "name", "window"],
            "checkpoint": ["self"],
            "form": ["self"],
            "seen": ["self"],
            "disk": ["self"],
            "writes": ["self"],
        },
        "recovered": ["plan", "alarms", "disk"],
    },
}


def sources():
    """Triples of the name, the text and the syntax tree of each file of the package."""
    found = []
    for name in sorted(os.listdir(PACKAGE)):
        if name != "__pycache__":
            with open(os.path.join(PACKAGE, name), encoding="ascii", newline="") as file:
                text = file.read()
            found.append((name, text, ast.parse(text)))
    return found


def arguments_of(node):
    """The names of the arguments of a function; for a class those of each of its methods."""
    if isinstance(node, ast.FunctionDef):
        return [argument.arg for argument in node.args.args]
    return {inner.name: arguments_of(inner) for inner in node.body if isinstance(inner, ast.FunctionDef)}


def imports_of(tree):
    return [node for node in ast.walk(tree) if isinstance(node, (ast.Import, ast.ImportFrom))]


def names_in(node):
    """The names that this node of a tree itself brings in."""
    fields = [getattr(node, field, None) for field in ("id", "attr", "arg", "name", "asname")]
    return {field for field in fields if isinstance(field, str)}


def without_comments(text):
    return "\n".join(line.partition("#")[0] for line in text.split("\n"))


class Language(unittest.TestCase):
    def test_files(self):
        self.assertIn("__init__.py", [name for name, _, _ in sources()])
        for name, _, _ in sources():
            self.assertRegex(name, r"\A[a-z0-9_]+\.py\Z")

    def test_sizes(self):
        for name, text, tree in sources():
            lines = text.split("\n")
            self.assertLessEqual(len(lines), 399, name)
            self.assertLessEqual(max(len(line) for line in lines), 120, name)
            for node in ast.walk(tree):
                if isinstance(node, ast.FunctionDef):
                    self.assertLessEqual(node.end_lineno - node.lineno + 1, 40, node.name)

    def test_characters(self):
        for name, text, _ in sources():
            self.assertEqual([sign for sign in text if sign != "\n" and not " " <= sign <= "~"], [], name)

    def test_imports(self):
        for name, _, tree in sources():
            for node in imports_of(tree):
                self.assertIsInstance(node, ast.ImportFrom, name)
                self.assertIn(node, tree.body, name)
                self.assertEqual(node.level, 0, name)
                if not node.module.startswith("toldwhensure."):
                    imported = {alias.name for alias in node.names}
                    self.assertLessEqual(imported, LIBRARY.get(node.module, set()), name)

    def test_no_two_files_import_from_each_other(self):
        left = {name[:-3]: [node.module.rpartition(".")[2] for node in imports_of(tree)]
                for name, _, tree in sources()}
        while left:
            free = [name for name, needs in left.items() if not set(needs) & set(left)]
            self.assertNotEqual(free, [], f"a ring of imports among {sorted(left)}")
            for name in free:
                del left[name]

    def test_builtins(self):
        for name, _, tree in sources():
            for node in ast.walk(tree):
                if isinstance(node, ast.Name) and node.id in EVERY_BUILTIN:
                    self.assertIn(node.id, BUILTINS, name)
                    self.assertIsInstance(node.ctx, ast.Load, name)

    def test_no_floats_no_true_division_and_no_percent_sign(self):
        for name, _, tree in sources():
            for node in ast.walk(tree):
                self.assertNotIsInstance(node, ast.Div, name)
                self.assertNotIsInstance(node, STATEMENTS_OUT, name)
                if isinstance(node, ast.Constant):
                    self.assertNotIsInstance(node.value, (float, complex), name)
                    if isinstance(node.value, str):
                        self.assertNotIn("%", node.value, name)

    def test_barred_words(self):
        for name, text, _ in sources():
            self.assertIsNone(BARRED_WORDS.search(without_comments(text)), name)

    def test_barred_names(self):
        for name, _, tree in sources():
            for node in ast.walk(tree):
                self.assertEqual(names_in(node) & BARRED_NAMES, set(), name)

    def test_interface_is_defined_in_its_files(self):
        trees = {name[:-3]: tree for name, _, tree in sources()}
        for file, names in INTERFACE.items():
            defined = {
                node.name: arguments_of(node)
                for node in trees[file].body if isinstance(node, (ast.FunctionDef, ast.ClassDef))
            }
            for name, arguments in names.items():
                self.assertIn(name, defined, file)
                if isinstance(arguments, dict):
                    self.assertLessEqual(arguments.items(), defined[name].items(), file)
                elif arguments is not None:
                    self.assertEqual(defined[name], arguments, file)

    def test_no_state_at_module_level(self):
        allowed = (ast.Expr, ast.ImportFrom, ast.FunctionDef, ast.ClassDef, ast.Assign)
        for name, _, tree in sources():
            for node in tree.body:
                self.assertIsInstance(node, allowed, name)
                if isinstance(node, ast.Expr):
                    self.assertIsInstance(node.value, ast.Constant, name)


if __name__ == "__main__":
    unittest.main()
