"""The rules of LANGUAGE.md that can be read off the code alone, and where the interface stands."""

import ast
import builtins
import re
import unittest
from pathlib import Path

PACKAGE = Path(__file__).resolve().parent.parent / "keptmeanings"
FILES = sorted(PACKAGE.rglob("*.py"))

BUILTINS = """len range enumerate zip min max sum abs sorted reversed int str bool bytes list tuple dict set frozenset
    isinstance ord repr any all divmod Exception ValueError TypeError KeyError IndexError LookupError ZeroDivisionError
    ArithmeticError OverflowError RuntimeError NotImplementedError AttributeError StopIteration NotImplemented iter
    next map property staticmethod classmethod super""".split()
LIBRARY = {"heapq": "heappush heappop heapify heapreplace heappushpop".split(),
           "math": "gcd lcm isqrt comb perm factorial".split(), "itertools": "product combinations permutations".split()}
METHODS = """init eq repr str len enter exit call iter lt le gt ge ne add sub mul floordiv mod pow and or xor lshift
    rshift radd rsub rmul rfloordiv rmod rand ror rxor rlshift rrshift iadd isub imul ifloordiv imod iand ior ixor neg
    pos invert abs bool contains getitem setitem""".split()
BARRED = (ast.Global, ast.AsyncFunctionDef, ast.AsyncFor, ast.AsyncWith, ast.Await, ast.Div, ast.MatMult,
          ast.AnnAssign, ast.MatchClass, ast.MatchMapping, ast.MatchValue)
WORDS = """type typing typing_extensions enum Enum IntEnum StrEnum Flag IntFlag Generic Protocol ABC ABCMeta namedtuple
    NamedTuple TypedDict TYPE_CHECKING abstractmethod register mro elements open input law""".split()

# What stands in each file of the interface: functions, and classes with their methods and properties.
INTERFACE = {
    "errors": "MeaningError",
    "forms": """Form Form.number Form.column Form.kept Form.given Form.setting Form.calls Form.columns Form.reads
        Form.same Form.then Form.by Form.__add__ Form.__radd__ Form.__sub__ Form.__rsub__ Form.__mul__ Form.__rmul__
        Form.__neg__ Form.__contains__ Form.__len__ Form.__eq__ Form.__init__""",
    "books": """Book Book.__init__ Book.base Book.settings Book.functions Book.__len__ Book.__getitem__ Book.wordings
        Book.put Book.tell Book.table Book.__xor__ Book.__eq__ Book.__iter__""",
    "plans": """Plan Plan.__init__ Plan.book Plan.columns Plan.things Plan.free Plan.writers Plan.askers Plan.__len__
        Plan.__getitem__ Plan.rows Plan.__or__ Plan.__sub__ Plan.names Plan.__eq__ Plan.__iter__""",
    "values": "plain passes",
    "rows": "first_state deeds after states_of told wrong_asks",
    "judging": """judge is_steady soonest count_states Steady Steady.__init__ Steady.shows Steady.__eq__ Astray
        Astray.__init__ Astray.shows Astray.__eq__""",
    "harmless": """weigh harmless_things leans Harmless Harmless.__init__ Harmless.shows Harmless.__eq__ Harmful
        Harmful.__init__ Harmful.shows Harmful.__eq__""",
    "roads": """first_stand stand_deeds is_good stand_after road road_price Road Road.__init__ Road.shows Road.__eq__ NoRoad
        NoRoad.__init__ NoRoad.shows NoRoad.__eq__""",
    "probes": "reach places parted probes Probes Probes.__init__ Probes.shows Probes.__eq__",
    "once": """first_couple couple_deeds couple_after once first_twice Once Once.__init__ Once.shows Once.__eq__ Twice
        Twice.__init__ Twice.shows Twice.__eq__""",
    "tables": """Table Table.__init__ Table.plan Table.wording Table.numbers Table.journal Table.session Table.__len__
        Table.__contains__ Table.__getitem__ Table.__setitem__ Table.take Table.use Table.add Table.put Table.build
        Table.seek Table.undo Table.branch Table.attempt Table.__iter__""",
    "texts": "write_form write_book write_plan write_history read_form read_book read_plan read_history",
    "remembering": """first_scene scene_after told_along recall is_fresh soonest_stale Fresh Fresh.__init__ Fresh.shows
        Fresh.__eq__ Stale Stale.__init__ Stale.shows Stale.__eq__""",
    "forgetting": "need least_rule is_enough Needed Needed.__init__ Needed.shows Needed.__eq__",
}


def tree_of(path):
    return ast.parse(path.read_text(encoding="utf-8"))


def nodes(kind):
    """All nodes of a kind in the package, each with what tells where it is."""
    return [(f"{path.name}:{getattr(node, 'lineno', 0)}", node)
            for path in FILES for node in ast.walk(tree_of(path)) if isinstance(node, kind)]


def defined_in(tree):
    """The names that a file defines, those of methods behind the names of their classes."""
    found = []
    for node in tree.body:
        if isinstance(node, (ast.FunctionDef, ast.ClassDef)):
            found.append(node.name)
        if isinstance(node, ast.ClassDef):
            found += [f"{node.name}.{part.name}" for part in node.body if isinstance(part, ast.FunctionDef)]
        if isinstance(node, ast.Assign):
            found += [target.id for target in node.targets]
    return found


class TestLanguage(unittest.TestCase):
    def test_interface_stands_in_its_files(self):
        for name, listed in INTERFACE.items():
            defined = defined_in(tree_of(PACKAGE / f"{name}.py"))
            self.assertEqual([one for one in listed.split() if one not in defined], [], name)

    def test_folder(self):
        for path in PACKAGE.rglob("*"):
            if path.is_file() and path.parent.name != "__pycache__":
                self.assertRegex(path.name, r"\A([a-z][a-z0-9_]*|__init__|__main__)\.py\Z")

    def test_characters_and_sizes(self):
        for path in FILES:
            text = path.read_bytes().decode("ascii")
            self.assertIsNone(re.search(r"[^\n -~]", text), path.name)
            self.assertLessEqual(len(text.splitlines()), 399, path.name)
            self.assertLessEqual(max([len(line) for line in text.splitlines()], default=0), 120, path.name)
        for place, node in nodes(ast.FunctionDef):
            self.assertLessEqual(node.end_lineno - node.lineno + 1, 40, place)

    def test_imports(self):
        self.assertEqual([place for place, _ in nodes(ast.Import) if not place.startswith("__main__")], [])
        for place, node in nodes(ast.ImportFrom):
            names = [one.name for one in node.names]
            self.assertEqual((node.level, [one.asname for one in node.names if one.asname]), (0, []), place)
            if node.module.startswith("keptmeanings."):
                defined = defined_in(tree_of(PACKAGE.joinpath(*node.module.split(".")[1:]).with_suffix(".py")))
            else:
                defined = LIBRARY[node.module]
            self.assertEqual([name for name in names if name not in defined], [], place)

    def test_barred_kinds(self):
        self.assertEqual([place for place, _ in nodes(BARRED)], [])
        for place, node in nodes(ast.Constant):
            self.assertNotIsInstance(node.value, (float, complex), place)
            self.assertFalse(isinstance(node.value, str) and "%" in node.value, place)
        for place, node in nodes(ast.Call):
            if isinstance(node.func, ast.Name) and node.func.id in ("any", "all", "min", "max", "sum", "sorted"):
                self.assertFalse([one for one in node.args if isinstance(one, ast.GeneratorExp)], place)

    def test_module_level(self):
        for path in FILES:
            for at, node in enumerate(tree_of(path).body):
                kinds = (ast.ImportFrom, ast.FunctionDef, ast.ClassDef, ast.Assign)
                docstring = at == 0 and isinstance(node, ast.Expr) and isinstance(node.value, ast.Constant)
                self.assertTrue(docstring or isinstance(node, kinds), f"{path.name}:{node.lineno}")

    def test_names(self):
        for place, node in nodes((ast.Name, ast.arg, ast.FunctionDef, ast.ClassDef)):
            name = getattr(node, "id", None) or getattr(node, "arg", None) or getattr(node, "name", None)
            self.assertNotIn(name, WORDS, place)
            if isinstance(node, ast.Name) and isinstance(node.ctx, ast.Load):
                self.assertTrue(name in BUILTINS or not hasattr(builtins, name), f"{place} {name}")
            elif isinstance(node, ast.FunctionDef) and name.startswith("__"):
                self.assertIn(name[2:-2], METHODS, place)
            else:
                self.assertFalse(hasattr(builtins, name), f"{place} {name}")

    def test_names_of_classes_and_imports_are_not_bound_again(self):
        for path in FILES:
            tree = tree_of(path)
            taken = {one.name for node in tree.body if isinstance(node, ast.ImportFrom) for one in node.names}
            taken |= {node.name for node in tree.body if isinstance(node, ast.ClassDef)}
            for node in ast.walk(tree):
                if isinstance(node, ast.arg):
                    self.assertNotIn(node.arg, taken, f"{path.name}:{node.lineno}")
                if isinstance(node, ast.Name) and isinstance(node.ctx, ast.Store):
                    self.assertNotIn(node.id, taken, f"{path.name}:{node.lineno}")

    def test_imports_go_one_way(self):
        above = {}
        for place, node in nodes(ast.ImportFrom):
            if node.module.startswith("keptmeanings."):
                above.setdefault(place.split(".")[0], set()).add(node.module.split(".")[1])
        for _ in FILES:
            for name in list(above):
                above[name] |= {far for near in above[name] for far in above.get(near, ())}
        self.assertEqual([name for name, found in above.items() if name in found], [])

    def test_decorators(self):
        for place, node in nodes((ast.FunctionDef, ast.ClassDef)):
            for one in node.decorator_list:
                self.assertIn(ast.unparse(one).split(".")[-1], ("property", "setter", "staticmethod", "classmethod"), place)


if __name__ == "__main__":
    unittest.main()
