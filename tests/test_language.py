"""The rules of LANGUAGE.md, as far as they can be read off the files of the package."""

import ast
import builtins
import pathlib
import re
import unittest

ROOT = pathlib.Path(__file__).resolve().parent.parent
PACKAGE = ROOT / "toldcounts"
FILES = {path.stem: path for path in sorted(PACKAGE.glob("*.py"))}
TEXTS = {name: path.read_text(encoding="utf-8") for name, path in FILES.items()}
TREES = {name: ast.parse(text) for name, text in TEXTS.items()}

LIBRARY = {"heapq": {"heappush", "heappop", "heapify", "heapreplace", "heappushpop"},
           "math": {"gcd", "lcm", "isqrt", "comb", "perm", "factorial"},
           "itertools": {"product", "combinations", "permutations"}}
BUILTINS = set("""len range enumerate zip min max sum abs sorted reversed int str bool list tuple dict set isinstance ord
repr any all divmod Exception ValueError TypeError KeyError IndexError LookupError ZeroDivisionError ArithmeticError
OverflowError RuntimeError NotImplementedError AttributeError iter next map property staticmethod classmethod
super""".split())
PYTHONS = {name for name in dir(builtins) if not name.startswith("_")}
METHODS = set("""append clear copy count endswith extend find get index insert isalnum isalpha isdigit islower isspace
isupper items join keys ljust lower lstrip partition pop remove replace reverse rfind rjust rpartition rsplit rstrip
setdefault split splitlines startswith strip update upper values zfill bit_length add discard isascii removeprefix
removesuffix""".split())
BARRED = set("""register mro elements open input law version_info with_traceback add_note attrgetter breakpoint builtins
compile copyright credits delattr dir eval exec exit gc getattr globals hasattr help id importlib license locals
methodcaller os quit setattr super type vars sys _cold _tuplegetter _outside _record _written_out
_member_names""".split())
BARRED_STARTS = ("_wall", "_pe_", "_dcw_", "_enum_", "_cm_", "_twin_re_", "_lay_", "_law_", "_stub_", "_sre")
WORDS = re.compile(r"\b(type|typing|enum|Enum|Flag|Generic|Protocol|ABC|namedtuple|NamedTuple|TypedDict)\b|_wall|_WallAttr")
DUNDERS = set("""__init__ __eq__ __repr__ __str__ __len__ __enter__ __exit__ __call__ __iter__ __contains__
__bool__""".split())
STATEMENTS = (ast.Assign, ast.AugAssign, ast.If, ast.While, ast.For, ast.Return, ast.Break, ast.Continue, ast.Pass,
              ast.Raise, ast.Assert, ast.Delete, ast.With, ast.Try, ast.Expr, ast.FunctionDef)
BARRED_NODES = (ast.GeneratorExp, ast.Global, ast.Nonlocal, ast.AsyncFunctionDef, ast.Await, ast.Yield, ast.YieldFrom,
                ast.SetComp, ast.Set, ast.Div, ast.MatMult, ast.NamedExpr, ast.Import, ast.Match, ast.Assert)

# The modules of the interface: each needs only those ahead of it.
MODULES = """limits errors stretches areas areacounts arearanges areanumbers areapages arearoundings crosses fillings
crossranges firsts crossnumbers ways pages crossroundings scores reports reportdata reportvalues faces boxes boxvalues
islands polls pollpeople votes profiles rules things wishes trials desks shelves consoles checker certificates""".split()


def nodes(kind):
    for name, tree in TREES.items():
        for node in ast.walk(tree):
            if isinstance(node, kind):
                yield f"{name}:{getattr(node, 'lineno', 0)}", node


def functions():
    return nodes((ast.FunctionDef, ast.Lambda))


def parameters(function):
    told = function.args
    return [each.arg for each in told.posonlyargs + told.args + told.kwonlyargs + [told.vararg, told.kwarg] if each]


def bound_in(tree):
    """All names that functions and comprehensions in the tree bind."""
    found = []
    for node in ast.walk(tree):
        if isinstance(node, (ast.FunctionDef, ast.Lambda)):
            found.extend(parameters(node))
        if isinstance(node, ast.Name) and isinstance(node.ctx, ast.Store):
            found.append(node.id)
        if isinstance(node, ast.ExceptHandler) and node.name:
            found.append(node.name)
    return found


def imported(tree):
    return {alias.name: node.module for node in tree.body if isinstance(node, ast.ImportFrom) for alias in node.names}


class Files(unittest.TestCase):
    def test_files_and_signs(self):
        for path in PACKAGE.rglob("*"):
            if "__pycache__" not in path.parts:
                self.assertRegex(path.name, r"^([a-z0-9_]+|__init__|__main__)\.py$")
        for name, text in TEXTS.items():
            self.assertTrue(all(sign == "\n" or " " <= sign <= "~" for sign in text), name)
            self.assertFalse(name in PYTHONS or name.startswith(("law_", "test")), name)
            self.assertIsNone(WORDS.search(re.sub(r'"""(.|\n)*?"""|#.*', "", text)), name)

    def test_sizes(self):
        for name, text in TEXTS.items():
            lines = text.split("\n")
            self.assertLessEqual(len(lines), 400, name)
            self.assertLessEqual(max(len(line) for line in lines), 120, name)
        for place, node in nodes(ast.FunctionDef):
            self.assertLessEqual(node.end_lineno - node.lineno + 1, 40, place)

    def test_imports(self):
        needs = {}
        for name, tree in TREES.items():
            needs[name] = set()
            for node in tree.body:
                if not isinstance(node, ast.ImportFrom):
                    continue
                self.assertEqual(node.level, 0, name)
                for alias in node.names:
                    self.assertIsNone(alias.asname, name)
                    if node.module in LIBRARY:
                        self.assertIn(alias.name, LIBRARY[node.module], name)
                        continue
                    package, _, other = node.module.partition(".")
                    self.assertEqual(package, "toldcounts")
                    needs[name].add(other)
                    self.assertIn(alias.name, self.defined(other), f"{name}: {alias.name}")
            told = list(imported(tree))
            self.assertEqual(len(told), sum(len(node.names) for node in tree.body if isinstance(node, ast.ImportFrom)))
            used = {node.id for node in ast.walk(tree) if isinstance(node, ast.Name)}
            self.assertEqual([each for each in told if each not in used], [], name)
        while needs:
            free = [name for name, others in needs.items() if not others & set(needs)]
            self.assertTrue(free, f"files import from one another: {sorted(needs)}")
            for name in free:
                del needs[name]

    def test_modules_need_only_those_ahead_of_them(self):
        self.assertLessEqual(set(MODULES), set(TREES))
        for at, name in enumerate(MODULES):
            waiting, needs = [name], set()
            while waiting:
                others = {node.module.partition(".")[2] for node in TREES[waiting.pop()].body
                          if isinstance(node, ast.ImportFrom) and node.module not in LIBRARY}
                waiting.extend(others - needs)
                needs |= others
            self.assertLessEqual(needs & set(MODULES), set(MODULES[:at]), name)

    def defined(self, name):
        found = []
        for node in TREES[name].body:
            if isinstance(node, (ast.FunctionDef, ast.ClassDef)):
                found.append(node.name)
            if isinstance(node, ast.Assign):
                found.append(node.targets[0].id)
        return found

    def test_module_level(self):
        for name, tree in TREES.items():
            behind = False
            for at, node in enumerate(tree.body):
                if isinstance(node, ast.ImportFrom):
                    self.assertFalse(behind, name)
                    continue
                if at == 0 and isinstance(node, ast.Expr) and isinstance(node.value, ast.Constant):
                    continue
                behind = True
                self.assertIsInstance(node, (ast.FunctionDef, ast.ClassDef, ast.Assign), name)
                if isinstance(node, ast.Assign):
                    self.assertTrue(len(node.targets) == 1 and isinstance(node.targets[0], ast.Name), name)
                    ast.literal_eval(node.value)
            told = self.defined(name) + list(imported(tree))
            self.assertEqual(len(told), len(set(told)), name)


class Names(unittest.TestCase):
    def test_names_are_plain(self):
        for name, tree in TREES.items():
            module = set(imported(tree)) | {node.name for node in tree.body if isinstance(node, ast.ClassDef)}
            for bound in bound_in(tree):
                self.assertRegex(bound, r"^(_|_?[A-Za-z][A-Za-z0-9_]*)$", name)
                self.assertNotIn(bound, PYTHONS, name)
                self.assertNotIn(bound, module, name)
                self.assertNotIn(bound, BARRED, name)
                self.assertFalse(bound.startswith(BARRED_STARTS), f"{name}: {bound}")
        for place, node in nodes((ast.FunctionDef, ast.ClassDef)):
            self.assertFalse(node.name in PYTHONS or node.name in BARRED, place)
            self.assertTrue(node.name in DUNDERS or re.match(r"^_?[A-Za-z][A-Za-z0-9_]*$", node.name), place)
        for place, node in nodes(ast.Name):
            self.assertFalse(node.id == "_" and isinstance(node.ctx, ast.Load), place)

    def test_names_that_are_read(self):
        for name, tree in TREES.items():
            known = set(bound_in(tree)) | set(imported(tree)) | BUILTINS
            known.update(node.name for node in ast.walk(tree) if isinstance(node, (ast.FunctionDef, ast.ClassDef)))
            for node in ast.walk(tree):
                if isinstance(node, ast.Name) and isinstance(node.ctx, ast.Load):
                    self.assertIn(node.id, known, f"{name}:{node.lineno}")

    def test_attributes_and_methods(self):
        assigned = {node.attr for _, node in nodes(ast.Attribute) if isinstance(node.ctx, ast.Store)}
        own, decorated = set(), set()
        for _, node in nodes(ast.ClassDef):
            stored = {each.attr for each in ast.walk(node)
                      if isinstance(each, ast.Attribute) and isinstance(each.ctx, ast.Store)}
            defined = [each.name for each in node.body if isinstance(each, ast.FunctionDef)]
            self.assertEqual(len(defined), len(set(defined)), node.name)
            self.assertFalse(stored & set(defined), node.name)
            own.update(defined)
            decorated.update(each.name for each in node.body if isinstance(each, ast.FunctionDef) and each.decorator_list)
        self.assertFalse(decorated & assigned)
        called = [node.func.attr for _, node in nodes(ast.Call) if isinstance(node.func, ast.Attribute)]
        for attribute in called:
            self.assertIn(attribute, own | METHODS)
            self.assertNotIn(attribute, DUNDERS)
        for place, node in nodes(ast.Attribute):
            self.assertIn(node.attr, own | assigned | METHODS, place)
            self.assertNotIn(node.attr, ("sort", "format", "args", "encode"), place)


class Statements(unittest.TestCase):
    def test_statements_and_expressions(self):
        for place, node in nodes(BARRED_NODES):
            self.fail(f"{place}: {node}")
        for _, function in nodes(ast.FunctionDef):
            for node in ast.walk(function):
                if isinstance(node, ast.stmt):
                    self.assertIsInstance(node, STATEMENTS)
        for place, node in nodes(ast.Constant):
            self.assertIsInstance(node.value, (int, str, bool, type(None)), place)
            if isinstance(node.value, str):
                self.assertNotIn("%", node.value, place)
        for place, node in nodes(ast.Pow):
            self.fail(f"{place}: a power")

    def test_decorators_and_defaults(self):
        for place, node in functions():
            for each in getattr(node, "decorator_list", []):
                self.assertIn(ast.unparse(each), ("property", "classmethod"), place)
            self.assertEqual(node.args.defaults + node.args.kw_defaults, [], place)
            self.assertIsNone(getattr(node, "returns", None), place)

    def test_stars_in_calls(self):
        for place, node in nodes(ast.Call):
            for each in node.args:
                if isinstance(each, ast.Starred):
                    self.assertIsInstance(each.value, ast.Name, place)
            self.assertNotIn(None, [each.arg for each in node.keywords], place)

    def test_comparisons_by_is(self):
        for place, node in nodes(ast.Compare):
            for sign, other in zip(node.ops, node.comparators):
                if isinstance(sign, (ast.Is, ast.IsNot)):
                    self.assertIn(ast.unparse(other), ("None", "True", "False"), place)

    def test_errors_are_made_on_the_spot_and_caught_by_name(self):
        own = {node.name for node in TREES["errors"].body if isinstance(node, ast.ClassDef)}
        for place, node in nodes(ast.Raise):
            self.assertIsInstance(node.exc, ast.Call, place)
            self.assertIn(node.exc.func.id, own, place)
        for place, node in nodes(ast.ExceptHandler):
            names = node.type.elts if isinstance(node.type, ast.Tuple) else [node.type]
            for name in names:
                self.assertIn(name.id, own, place)

    def test_loops_do_not_change_what_they_iterate_over(self):
        changing = ("append", "clear", "extend", "insert", "pop", "remove", "reverse", "setdefault", "update")
        for place, node in nodes(ast.For):
            over = {each.id for each in ast.walk(node.iter) if isinstance(each, ast.Name)}
            over -= {each.args[0].id for each in ast.walk(node.iter) if isinstance(each, ast.Call)
                     and ast.unparse(each.func) in ("len", "range") and each.args and isinstance(each.args[0], ast.Name)}
            for each in ast.walk(ast.Module(node.body, [])):
                if isinstance(each, ast.Call) and isinstance(each.func, ast.Attribute) and each.func.attr in changing:
                    self.assertNotIn(ast.unparse(each.func.value), over, place)
                if isinstance(each, ast.Subscript) and isinstance(each.ctx, (ast.Store, ast.Del)):
                    self.assertNotIn(ast.unparse(each.value), over, place)

    def test_iterators_are_not_kept(self):
        for place, node in nodes((ast.Assign, ast.Return)):
            if isinstance(node.value, ast.Call) and isinstance(node.value.func, ast.Name):
                self.assertNotIn(node.value.func.id, ("zip", "enumerate", "reversed", "range", "map", "iter"), place)

    def test_special_methods_return_what_they_must(self):
        for place, node in nodes(ast.FunctionDef):
            told = [ast.unparse(each.value) for each in ast.walk(node) if isinstance(each, ast.Return) and each.value]
            if node.name == "__len__":
                self.assertTrue(all(each.startswith("len(") for each in told), place)
            if node.name == "__str__":
                self.assertTrue(all(each.startswith("str(") for each in told), place)
            if node.name == "__init__":
                self.assertEqual(told, [], place)
            if node.name in ("__contains__", "__bool__"):
                self.assertIsInstance(node.body[-1], ast.Return, place)

    def test_with_statements(self):
        for place, node in nodes(ast.With):
            self.assertEqual([ast.unparse(item.context_expr) for item in node.items], ["Trial(self)"], place)
        for place, node in nodes(ast.FunctionDef):
            if node.name == "__exit__":
                self.assertEqual(parameters(node), ["self", "kind", "value", "trace"], place)
                rows = [row for row in ast.walk(node) if isinstance(row, ast.stmt) and row is not node]
                for row in rows:
                    if isinstance(row, ast.If):
                        self.assertEqual((ast.unparse(row.test), row.orelse), ("kind is not None", []), place)
                    else:
                        self.assertIsInstance(row, ast.Assign, place)
                        for part in (row.value, *row.targets):
                            self.assertIsInstance(part, ast.Attribute, place)
                            self.assertRegex(ast.unparse(part), r"^self\._", place)

    def test_operators_and_properties_change_nothing(self):
        for place, node in nodes(ast.FunctionDef):
            special = node.name in DUNDERS - {"__init__", "__enter__", "__exit__"}
            if special or "property" in [ast.unparse(each) for each in node.decorator_list]:
                for each in ast.walk(node):
                    self.assertNotIsInstance(each, (ast.AugAssign, ast.Delete, ast.Assign), place)
                    if isinstance(each, ast.Call):
                        self.assertIn(ast.unparse(each.func), ("len", "str", "tuple", "sorted", "list", "range", "isinstance"), place)

    def test_functions_of_the_library(self):
        for name, tree in TREES.items():
            told = {alias.name for node in tree.body if isinstance(node, ast.ImportFrom) and node.module in LIBRARY
                    for alias in node.names}
            calls = [node for node in ast.walk(tree) if isinstance(node, ast.Call) and ast.unparse(node.func) in told]
            uses = [node for node in ast.walk(tree) if isinstance(node, ast.Name) and node.id in told]
            self.assertEqual(len(calls), len(uses), name)
            for call in calls:
                self.assertEqual(call.keywords, [], name)


if __name__ == "__main__":
    unittest.main()
