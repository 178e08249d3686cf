"""The code of the package keeps to a small part of Python; these tests look at what can be seen from its form."""

import ast
import builtins
import os
import unittest

import raggedtotals

FOLDER = os.path.dirname(raggedtotals.__file__)
FILES = sorted(name for name in os.listdir(FOLDER) if name != "__pycache__")
BUILTINS = set(
    "len range enumerate zip min max sum abs sorted reversed int str bool list tuple dict set isinstance ord repr any "
    "all divmod super iter type property staticmethod Exception ValueError TypeError KeyError IndexError LookupError "
    "ZeroDivisionError ArithmeticError OverflowError RuntimeError NotImplementedError".split()
)
METHODS = set(
    "append clear copy count endswith extend find get index insert isalnum isalpha isdigit islower isspace isupper "
    "items join keys ljust lower lstrip partition pop remove replace reverse rfind rjust rpartition rsplit rstrip "
    "setdefault split splitlines startswith strip update upper values zfill bit_length add discard".split()
)
DOUBLES = set(
    "__init__ __eq__ __repr__ __str__ __len__ __call__ __iter__ __contains__ __and__ __or__ __rshift__ "
    "__invert__".split()
)
BARRED = set(
    "register mro elements open input law version_info with_traceback add_note type typing enum globals locals vars "
    "dir id help exit quit eval exec compile os sys gc dataclass namedtuple abstractmethod overload".split()
)


def source_of(name):
    with open(os.path.join(FOLDER, name), encoding="utf-8") as file:
        return file.read()


def trees():
    return {name: ast.parse(source_of(name)) for name in FILES if name.endswith(".py")}


TREES = trees()
OWN_METHODS = {
    item.name for tree in TREES.values() for node in ast.walk(tree) if isinstance(node, ast.ClassDef)
    for item in node.body if isinstance(item, ast.FunctionDef)
}
OWN_ERRORS = {node.name for node in TREES["errors.py"].body if isinstance(node, ast.ClassDef)}


def walk(kind):
    """All nodes of a kind, with a word for the place where they are."""
    for name, tree in TREES.items():
        for node in ast.walk(tree):
            if isinstance(node, kind):
                yield f"{name}:{getattr(node, 'lineno', 0)}", node


def bound_names(tree):
    """All names that a file binds anywhere."""
    found = set()
    for node in ast.walk(tree):
        if isinstance(node, (ast.FunctionDef, ast.ClassDef)):
            found.add(node.name)
        elif isinstance(node, ast.arg):
            found.add(node.arg)
        elif isinstance(node, ast.Name) and isinstance(node.ctx, ast.Store):
            found.add(node.id)
        elif isinstance(node, ast.ImportFrom):
            found.update(alias.asname or alias.name for alias in node.names)
    return found


class FormTest(unittest.TestCase):
    def test_files(self):
        self.assertIn("__init__.py", FILES)
        for name in FILES:
            self.assertRegex(name, r"\A[a-z_]+\.py\Z")

    def test_lines_and_signs(self):
        for name in FILES:
            text = source_of(name)
            lines = text.split("\n")
            self.assertTrue(len(lines) < 400, name)
            self.assertTrue(max(len(line) for line in lines) <= 120, name)
            self.assertTrue(all(sign == "\n" or " " <= sign <= "~" for sign in text), name)

    def test_functions_are_small(self):
        for place, node in walk(ast.FunctionDef):
            self.assertTrue(node.end_lineno - node.lineno < 40, place)

    def test_kinds_of_statements_and_values(self):
        for place, node in walk((
            ast.Lambda, ast.GeneratorExp, ast.Global, ast.Nonlocal, ast.With, ast.Await, ast.AsyncFunctionDef,
            ast.AnnAssign, ast.Div, ast.Import, ast.Match, ast.NamedExpr, ast.Assert, ast.YieldFrom, ast.Delete,
        )):
            self.fail(f"{place} {type(node).__name__}")
        for place, node in walk(ast.Constant):
            self.assertNotIsInstance(node.value, (float, complex), place)
        for place, node in walk((ast.arg, ast.FunctionDef)):
            self.assertIsNone(node.annotation if isinstance(node, ast.arg) else node.returns, place)

    def test_strings_have_no_percent(self):
        for place, node in walk(ast.Constant):
            if isinstance(node.value, str):
                self.assertNotIn("%", node.value, place)

    def test_module_level(self):
        for name, tree in TREES.items():
            for index, node in enumerate(tree.body):
                if index == 0:
                    self.assertIsInstance(node, ast.Expr, name)
                    self.assertIsInstance(node.value.value, str, name)
                elif isinstance(node, ast.Assign):
                    self.assertIsInstance(node.value, ast.Constant, name)
                else:
                    self.assertIsInstance(node, (ast.ImportFrom, ast.FunctionDef, ast.ClassDef), name)
            kinds = [isinstance(node, ast.ImportFrom) for node in tree.body[1:]]
            self.assertEqual(kinds, sorted(kinds, reverse=True), name)

    def test_no_name_is_bound_twice(self):
        for name, tree in TREES.items():
            found = [node.name for node in tree.body if isinstance(node, (ast.FunctionDef, ast.ClassDef))]
            found += [alias.name for node in tree.body if isinstance(node, ast.ImportFrom) for alias in node.names]
            found += [node.targets[0].id for node in tree.body if isinstance(node, ast.Assign)]
            self.assertEqual(len(found), len(set(found)), name)
            inner = {node.arg for node in ast.walk(tree) if isinstance(node, ast.arg)}
            inner |= {node.id for node in ast.walk(tree) if isinstance(node, ast.Name) and isinstance(node.ctx, ast.Store)}
            inner -= {node.targets[0].id for node in tree.body if isinstance(node, ast.Assign)}
            self.assertEqual(inner & set(found), set(), name)

    def test_every_function_and_class_has_a_docstring(self):
        for place, node in walk((ast.FunctionDef, ast.ClassDef)):
            if not node.name.startswith("__"):
                self.assertTrue(ast.get_docstring(node), place)


class ImportTest(unittest.TestCase):
    def test_imports_name_the_very_file(self):
        for place, node in walk(ast.ImportFrom):
            self.assertEqual(node.level, 0, place)
            if node.module == "math":
                self.assertTrue({alias.name for alias in node.names} <= {"gcd", "lcm"}, place)
                continue
            self.assertTrue(node.module.startswith("raggedtotals."), place)
            tree = TREES[node.module.split(".")[1] + ".py"]
            defined = {item.name for item in tree.body if isinstance(item, (ast.FunctionDef, ast.ClassDef))}
            defined |= {item.targets[0].id for item in tree.body if isinstance(item, ast.Assign)}
            for alias in node.names:
                self.assertIsNone(alias.asname, place)
                self.assertIn(alias.name, defined, place)

    def test_no_two_files_import_from_each_other(self):
        needs = {
            name: {node.module.split(".")[1] + ".py" for node in tree.body
                   if isinstance(node, ast.ImportFrom) and node.module != "math"}
            for name, tree in TREES.items()
        }
        left = dict(needs)
        while left:
            free = [name for name in left if not left[name] & set(left)]
            self.assertTrue(free, sorted(left))
            left = {name: left[name] for name in left if name not in free}

    def test_names_of_the_library_are_only_called(self):
        for name, tree in TREES.items():
            called = {id(node.func) for node in ast.walk(tree) if isinstance(node, ast.Call) and not node.keywords}
            for node in ast.walk(tree):
                if isinstance(node, ast.Name) and node.id in ("gcd", "lcm"):
                    self.assertIn(id(node), called, f"{name}:{node.lineno}")

    def test_every_import_is_used(self):
        for name, tree in TREES.items():
            used = {node.id for node in ast.walk(tree) if isinstance(node, ast.Name)}
            for node in tree.body:
                if isinstance(node, ast.ImportFrom):
                    for alias in node.names:
                        self.assertIn(alias.name, used, name)


class NameTest(unittest.TestCase):
    def test_builtins(self):
        for name, tree in TREES.items():
            bound = bound_names(tree)
            for node in ast.walk(tree):
                if isinstance(node, ast.Name) and node.id not in bound:
                    self.assertIn(node.id, BUILTINS, f"{name}:{node.lineno}")
            self.assertEqual({item for item in bound - DOUBLES if hasattr(builtins, item)}, set(), name)

    def test_names(self):
        for name, tree in TREES.items():
            self.assertEqual(bound_names(tree) & BARRED, set(), name)
            for item in bound_names(tree):
                self.assertTrue(not item.startswith("__") or item in DOUBLES, f"{name} {item}")

    def test_methods(self):
        for place, node in walk(ast.Call):
            if isinstance(node.func, ast.Attribute):
                self.assertTrue(node.func.attr in METHODS or node.func.attr in OWN_METHODS
                                or node.func.attr.startswith("_"), f"{place} {node.func.attr}")

    def test_decorators(self):
        for place, node in walk(ast.FunctionDef):
            for item in node.decorator_list:
                self.assertIn(ast.unparse(item), ("property", "staticmethod", f"{node.name}.setter"), place)

    def test_is_stands_beside_none(self):
        for place, node in walk(ast.Compare):
            for sign, right in zip(node.ops, node.comparators):
                if isinstance(sign, (ast.Is, ast.IsNot)):
                    self.assertIn(ast.unparse(right), ("None", "True", "False"), place)

    def test_properties_and_methods_are_apart(self):
        properties, methods, attributes, settable = set(), set(), set(), set()
        for _, node in walk(ast.ClassDef):
            for item in node.body:
                if isinstance(item, ast.FunctionDef):
                    marked = [ast.unparse(row) for row in item.decorator_list]
                    kind = properties if {"property", f"{item.name}.setter"} & set(marked) else methods
                    kind.add(item.name)
                    if f"{item.name}.setter" in marked:
                        settable.add(item.name)
        for _, node in walk(ast.Attribute):
            if isinstance(node.ctx, ast.Store):
                attributes.add(node.attr)
        self.assertEqual(properties & methods, set())
        self.assertEqual(attributes & (methods | properties), settable)


class UseTest(unittest.TestCase):
    def test_sets_are_used_on_the_spot(self):
        for name, tree in TREES.items():
            parents = {child: node for node in ast.walk(tree) for child in ast.iter_child_nodes(node)}
            for node in ast.walk(tree):
                made = isinstance(node, ast.Call) and isinstance(node.func, ast.Name) and node.func.id == "set"
                if made or isinstance(node, (ast.Set, ast.SetComp)):
                    above = parents[node]
                    good = isinstance(above, ast.Compare) or (
                        isinstance(above, ast.Call) and ast.unparse(above.func) in ("sorted", "len"))
                    self.assertTrue(good, f"{name}:{node.lineno}")

    def test_only_own_errors_are_caught(self):
        for place, node in walk(ast.ExceptHandler):
            kinds = node.type.elts if isinstance(node.type, ast.Tuple) else [node.type]
            for kind in kinds:
                self.assertIn(kind.id, OWN_ERRORS, place)

    def test_errors_are_created_where_they_are_raised(self):
        for place, node in walk(ast.Raise):
            self.assertIsInstance(node.exc, ast.Call, place)
            self.assertIn(node.exc.func.id, OWN_ERRORS | {"NotImplementedError"}, place)

    def test_texts_and_properties_only_return(self):
        for place, node in walk(ast.FunctionDef):
            marked = [ast.unparse(row) for row in node.decorator_list]
            if node.name in ("__str__", "__repr__", "__eq__", "__len__", "__contains__") or "property" in marked:
                rows = [row for row in node.body if not isinstance(row, ast.Expr)]
                self.assertEqual([isinstance(row, ast.Return) for row in rows], [True], place)
            if node.name in ("__str__", "__repr__"):
                value = node.body[-1].value
                self.assertTrue(isinstance(value, ast.JoinedStr) or ast.unparse(value).startswith("str("), place)

    def test_double_underscore_methods(self):
        for place, node in walk(ast.FunctionDef):
            if node.name.startswith("__"):
                self.assertIn(node.name, DOUBLES, place)


def is_plain_argument(node):
    """Whether an expression may be starred in a call, or stand behind a star."""
    if isinstance(node, (ast.Tuple, ast.List)):
        return all(is_plain_argument(item) for item in node.elts)
    if isinstance(node, ast.Attribute):
        return isinstance(node.value, ast.Name) and node.attr not in PROPERTIES
    return isinstance(node, (ast.Name, ast.Constant))


PROPERTIES = {node.name for _, node in walk(ast.FunctionDef)
              if "property" in [ast.unparse(item) for item in node.decorator_list]}


class CallTest(unittest.TestCase):
    def test_stars_in_calls(self):
        for place, node in walk(ast.Call):
            starred = [at for at, item in enumerate(node.args) if isinstance(item, ast.Starred)]
            if starred:
                self.assertEqual(len(starred), 1, place)
                self.assertTrue(is_plain_argument(node.args[starred[0]].value), place)
                behind = node.args[starred[0] + 1:] + [item.value for item in node.keywords]
                self.assertTrue(all(is_plain_argument(item) for item in behind), place)

    def test_views_of_dicts_are_iterated_on_the_spot(self):
        for name, tree in TREES.items():
            parents = {child: node for node in ast.walk(tree) for child in ast.iter_child_nodes(node)}
            for node in ast.walk(tree):
                if isinstance(node, ast.Call) and ast.unparse(node.func).split(".")[-1] in (
                        "values", "items", "keys", "zip", "enumerate", "reversed", "range"):
                    above = parents[node]
                    good = isinstance(above, (ast.For, ast.comprehension)) or isinstance(above, ast.Compare) or (
                        isinstance(above, ast.Call) and ast.unparse(above.func) in (
                            "list", "tuple", "sorted", "enumerate", "reversed", "zip", "sum", "dict", "len"))
                    self.assertTrue(good, f"{name}:{node.lineno}")


class InterfaceTest(unittest.TestCase):
    FUNCTIONS = {
        "names.py": ["is_name", "is_link"], "texts.py": ["read_condition"], "linear.py": ["solve"],
        "consequences.py": ["is_possible", "follows", "breaking", "same_rules", "rules_difference", "idle_rules"],
        "hierarchies.py": ["example_of"], "cellshapes.py": ["passing", "part_at", "is_below", "texts_of"],
        "sums.py": ["find_formula", "is_determined"], "blindspots.py": ["find_blind_spot", "sees"],
        "counting.py": ["counted", "example_counted", "view_weights", "obstacle"], "stores.py": ["cheapest"],
        "bans.py": ["exactly", "with_bans", "fewest_bans"], "warehouses.py": ["set_views", "what_if"],
        "reports.py": ["report"], "checker.py": ["holds"],
        "certificates.py": ["certify_follows", "certify_totals", "certify_greatest", "certify_price"],
    }
    CLASSES = {
        ("shapes.py", "Shape"): "__init__ read level levels links marks part mark __contains__ __eq__ __str__ __repr__",
        ("schemas.py", "Schema"): "__init__ read base levels links marks rules above marks_of shapes fits allows "
                                  "with_rule __eq__ __str__ __repr__",
        ("conditions.py", "Condition"): "levels parts depth __call__ __and__ __or__ __rshift__ __invert__ __eq__ "
                                        "__str__ __repr__",
        ("hierarchies.py", "Hierarchy"): "__init__ of schema entries members entry shape ancestor below __len__ "
                                         "__contains__ __iter__ __eq__ __repr__",
        ("cubes.py", "Cube"): "__init__ schemas base is_view __len__ __eq__",
        ("datasets.py", "Dataset"): "__init__ hierarchies cube facts is_cell cells total greatest least fact_count "
                                    "table cell_shape with_facts __len__ __eq__ __repr__",
        ("sums.py", "Formula"): "cube wanted stored rows used answer __len__ __repr__",
        ("blindspots.py", "BlindSpot"): "first second cell", ("stores.py", "Plan"): "chosen price evidence",
        ("warehouses.py", "Warehouse"): "__init__ do do_all undo dataset cube history views kept ask sources __len__ "
                                        "__repr__",
    }
    for kind in "Reaches Way Via Marked Not All Any One If".split():
        CLASSES["conditions.py", kind] = "__init__ __call__ WORD"

    def test_functions_stand_in_their_files(self):
        for name, wanted in self.FUNCTIONS.items():
            found = {node.name for node in TREES[name].body if isinstance(node, ast.FunctionDef)}
            self.assertTrue(set(wanted) <= found, name)

    def test_parameters_have_their_names(self):
        wanted = {
            "names.py": "is_name(value) is_link(value)", "texts.py": "read_condition(text)",
            "linear.py": "solve(rows,goal)", "hierarchies.py": "example_of(schema,shape)",
            "consequences.py": "is_possible(schema,level) follows(schema,level,condition) "
                               "breaking(schema,level,condition) same_rules(schema,other) "
                               "rules_difference(schema,other) idle_rules(schema)",
            "cellshapes.py": "passing(cube,view) part_at(cube,shapes,view) is_below(cube,shapes,upper) "
                             "texts_of(cube,shapes)",
            "sums.py": "find_formula(cube,wanted,stored) is_determined(cube,wanted,stored,*,measure='total')",
            "blindspots.py": "find_blind_spot(cube,wanted,stored,*,measure='total') sees(blind_spot,view)",
            "counting.py": "counted(cube,wanted,stored) example_counted(cube,wanted,stored,times) "
                           "view_weights(cube,wanted,stored) obstacle(cube,wanted,stored)",
            "stores.py": "cheapest(cube,wanteds,candidates,prices)",
            "bans.py": "exactly(schema,shape) with_bans(schema,*shapes) fewest_bans(schema,wanted,stored)",
            "warehouses.py": "set_views(warehouse,views) what_if(warehouse,view,cell,*deeds)",
            "reports.py": "report(cube,stored,*views)", "checker.py": "holds(claim,certificate)",
            "certificates.py": "certify_follows(schema,level,condition) certify_totals(cube,wanted,stored) "
                               "certify_greatest(cube,wanted,stored) certify_price(cube,wanteds,candidates,prices)",
        }
        for name, words in wanted.items():
            found = {f"{node.name}({ast.unparse(node.args)})".replace(" ", "")
                     for node in TREES[name].body if isinstance(node, ast.FunctionDef)}
            self.assertEqual(set(words.split()) - found, set(), name)

    def test_methods_stand_in_their_classes(self):
        for (name, kind), wanted in self.CLASSES.items():
            node = [row for row in TREES[name].body if isinstance(row, ast.ClassDef) and row.name == kind][0]
            found = {row.name for row in node.body if isinstance(row, ast.FunctionDef)}
            found |= {row.targets[0].id for row in node.body if isinstance(row, ast.Assign)}
            self.assertEqual(set(wanted.split()) - found, set(), kind)


if __name__ == "__main__":
    unittest.main()
