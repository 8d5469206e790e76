"""The rules of LANGUAGE.md that a look at the code can tell, and the interface of DOC.md.

This is no full judge of the rules; it holds the ones that are easy to break unawares.
"""

import ast
import builtins
import importlib
import inspect
import pathlib
import unittest

PACKAGE = pathlib.Path(__file__).resolve().parent.parent / "hornmill"

INTERFACE = {
    "errors": ["HornError", "BadTerm", "BadPairs", "BadBindings", "BadAddress", "BadCell", "BadValue", "BadGoal", "NoClause",
               "NoFlat", "NoCode", "NoKey", "NoText", "NoTable", "NoOperator", "BadClause"],
    "terms": ["is_term(thing)", "size_of(term)", "depth_of(term)", "variables_of(term)", "renumbered(term)"],
    "order": ["compare_terms(one, other)", "sort_terms(terms)"],
    "unify": ["resolved_term(term, bindings)", "unify(pairs)", "is_unifier(pairs, bindings)", "is_most_general(pairs, bindings)"],
    "general": ["matching(general, special)", "subsumes(general, special)", "is_variant(one, other)", "meet_of(one, other)",
                "join_of(one, other)"],
    "signs": ["tokens(text)"],
    "operators": ["standard()", "with_operator(table, priority, kind, name)"],
    "reader": ["read_term(text, table)", "read_terms(text, table)", "ending(text, table)"],
    "writer": ["written(term, table)", "brackets(term, table)"],
    "bodies": ["is_body(term)", "is_clause(term)", "stored(clause)"],
    "flat": ["flattened(clause, first)", "flat_goal(goal, name)"],
    "meaning": ["Query.next()", "Query.is_open()", "Query.calls()", "Query.choices()", "Query.standing()"],
    "builtins": ["builtin_row(world, key, args, k)", "sort_of(key)"],
    "none": [],
    "reckon": ["reckoned(term)"],
    "world": ["World(clauses=())", "World.query(goal, *, limit=2000)", "World.clauses(key)", "World.flat(key)", "World.known()",
              "World.output()"],
    "cells": ["is_address(value)", "is_cell(value)"],
    "heap": ["Store()", "Store.heap()", "Store.trail()", "Store.size()", "Store.at(address)", "Store.end(cell)", "Store.new()",
             "Store.put(cell)", "Store.fill(k, cell)", "Store.free(k)", "Store.marks(heap_mark, stack_mark)", "Store.bind(address, cell)",
             "Store.undo(length, size)", "Store.build(term, names)", "Store.read(cells)", "Store.contains(address, cell)",
             "Store.join(one, other)"],
    "collects": ["library()", "free_of(template, goal)", "grouped(word, pairs)"],
    "code": ["is_instruction(thing)", "is_code(thing)", "registers(code)", "slots_of(code)"],
    "chunks": ["chunks(flat)", "slots(flat)", "trims(flat)", "has_frame(flat)"],
    "compiling": ["compiled(flat)", "unsafe(flat)", "size(flat)"],
    "clausecode": ["flat_of(key, code)"],
    "index": ["index_key(term)", "Index(clauses)", "Index.row(key)", "Index.known()", "Index.rest()", "tried(clauses, args)", "fitting(clauses, args)",
              "switches(clauses)", "rows_of(switches)"],
    "machine": ["Machine(world, goal, *, limit=2000)", "Machine.next()", "Machine.step()", "Machine.is_open()", "Machine.calls()", "Machine.top()",
                "Machine.entry()", "Machine.heap()", "Machine.trail()", "Machine.frames()", "Machine.choices()", "Machine.registers()", "Machine.counts()",
                "Machine.place()"],
    "judge": ["judge(arity, code)", "held(arity, code, place)", "least_trims(code)"],
    "reach": ["is_at_clause(machine)", "frames_behind(machine, i)", "reached(machine, i)"],
    "collect": ["collect(machine)"],
}

BUILTINS = set("""len range enumerate zip min max sum abs sorted reversed int str bool bytes list tuple dict set isinstance ord
    repr any all divmod Exception ValueError TypeError KeyError IndexError LookupError ZeroDivisionError ArithmeticError
    OverflowError RuntimeError NotImplementedError""".split())

METHODS = set("""append clear copy count endswith extend find get index insert isalnum isalpha isdigit islower isspace isupper
    items join keys ljust lower lstrip partition pop remove replace reverse rfind rjust rpartition rsplit rstrip setdefault
    split splitlines startswith strip update upper values zfill bit_length""".split())

NEVER = set("""register mro elements open input law version_info with_traceback add_note f_back tb_next co_names""".split())
NO_NAMES = NEVER | set("""attrgetter breakpoint builtins compile copyright credits delattr dir eval exec exit gc getattr globals
    hasattr help id importlib license locals methodcaller os quit setattr super type vars sys iter next map""".split())
NO_WORDS = set("""type typing enum Enum Flag Generic Protocol ABC namedtuple NamedTuple TypedDict abstractmethod _wall _WallAttr
    dataclass overload contextmanager""".split())
DUNDERS = {"__init__"}
ATTRIBUTES = set("count index title find get join lower upper split strip copy add".split())
# The names that L26 bars for attributes, whatever values of Python's own have.
NO_ATTRIBUTES = set("""items keys values pop update append clear extend insert remove reverse setdefault sort args encode decode
    hex fromhex format""".split())

STATEMENTS = (
    ast.Assign, ast.AugAssign, ast.If, ast.While, ast.For, ast.Return, ast.Break, ast.Continue, ast.Pass, ast.Raise, ast.Assert,
    ast.Delete, ast.Expr, ast.FunctionDef, ast.ClassDef, ast.ImportFrom, ast.Try)
EXPRESSIONS = (
    ast.BoolOp, ast.BinOp, ast.UnaryOp, ast.Lambda, ast.IfExp, ast.Dict, ast.ListComp, ast.DictComp, ast.SetComp, ast.Compare, ast.Call,
    ast.JoinedStr, ast.FormattedValue, ast.Constant, ast.Attribute, ast.Subscript, ast.Starred, ast.Name, ast.List, ast.Tuple,
    ast.Slice)


def files():
    return sorted(PACKAGE.glob("*.py"))


def trees():
    for path in files():
        yield path.stem, ast.parse(path.read_text())


def docstrings(tree):
    found = set()
    for node in ast.walk(tree):
        if isinstance(node, (ast.Module, ast.ClassDef, ast.FunctionDef)) and ast.get_docstring(node) is not None:
            found.add(node.body[0].value)
    return found


class Language(unittest.TestCase):
    def test_files(self):
        self.assertGreaterEqual({path.stem for path in files()}, set(INTERFACE) | {"__init__"})
        for path in PACKAGE.iterdir():
            if path.name != "__pycache__":
                with self.subTest(path.name):
                    self.assertRegex(path.name, r"^[a-z_0-9]+\.py$")

    def test_size_and_signs(self):
        for path in files():
            text = path.read_text()
            self.assertLessEqual(len(text.splitlines()), 399, path.name)
            for at, line in enumerate(text.splitlines()):
                with self.subTest(path.name, line=at + 1):
                    self.assertLessEqual(len(line), 120)
                    self.assertTrue(all(" " <= sign <= "~" for sign in line))
                    self.assertEqual(line, line.rstrip())

    def test_functions_are_small(self):
        for name, tree in trees():
            for node in ast.walk(tree):
                if isinstance(node, (ast.FunctionDef, ast.Lambda)):
                    self.assertLessEqual(node.end_lineno - node.lineno + 1, 40, f"{name}: {node.lineno}")

    def test_module_level(self):
        for name, tree in trees():
            places = [type(node) for node in tree.body]
            for node in tree.body:
                with self.subTest(name, line=node.lineno):
                    self.assertIsInstance(node, (ast.ImportFrom, ast.FunctionDef, ast.ClassDef, ast.Assign, ast.Expr))
                    if isinstance(node, ast.Assign):
                        self.assertEqual([type(target) for target in node.targets], [ast.Name])
                        self.assertFalse([one for one in ast.walk(node.value) if isinstance(one, (ast.Call, ast.ListComp))])
                    if isinstance(node, ast.Expr):
                        self.assertEqual(places.index(ast.Expr), 0)
                        self.assertEqual(places.count(ast.Expr), 1)

    def test_statements_and_expressions(self):
        for name, tree in trees():
            for node in ast.walk(tree):
                with self.subTest(name, line=getattr(node, "lineno", 0)):
                    if isinstance(node, ast.stmt):
                        self.assertIsInstance(node, STATEMENTS)
                    if isinstance(node, ast.expr):
                        self.assertIsInstance(node, EXPRESSIONS)
                    if isinstance(node, (ast.FunctionDef, ast.ClassDef)):
                        self.assertEqual(node.decorator_list, [])
                    if isinstance(node, ast.Compare):
                        for sign, right in zip(node.ops, node.comparators):
                            if isinstance(sign, (ast.Is, ast.IsNot)):
                                self.assertIsNone(right.value)
                    if isinstance(node, ast.BinOp):
                        self.assertNotIsInstance(node.op, ast.Div)
                        if isinstance(node.op, ast.Pow):
                            self.assertTrue(0 <= node.right.value <= 64)
                    if isinstance(node, ast.Raise):
                        self.assertIsInstance(node.exc, ast.Call)
                        self.assertIsInstance(node.exc.func, ast.Name)

    def test_handlers_and_sets(self):
        own = {node.name for _, tree in trees() for node in tree.body if isinstance(node, ast.ClassDef)}
        for name, tree in trees():
            held = set()
            for node in ast.walk(tree):
                if isinstance(node, ast.Call) and isinstance(node.func, ast.Name) and node.func.id in ("len", "sorted"):
                    held.add(node.args[0])
            for node in ast.walk(tree):
                with self.subTest(name, line=getattr(node, "lineno", 0)):
                    if isinstance(node, ast.Try):
                        self.assertEqual(node.finalbody, [])
                        for handler in node.handlers:
                            self.assertIn(handler.type.id, own | {"KeyError"})
                    if isinstance(node, ast.SetComp):
                        self.assertIn(node, held)

    def test_imports(self):
        needs = {}
        for name, tree in trees():
            needs[name] = []
            for node in tree.body:
                if isinstance(node, ast.ImportFrom):
                    with self.subTest(name, line=node.lineno):
                        self.assertEqual(node.level, 0)
                        package, module = node.module.split(".")
                        self.assertEqual(package, "hornmill")
                        home = ast.parse((PACKAGE / f"{module}.py").read_text())
                        for one in node.names:
                            self.assertIsNone(one.asname)
                            self.assertIn(one.name, defined(home))
                            self.assertFalse(one.name.startswith("_"))
                        needs[name].append(module)
            for node in ast.walk(tree):
                if isinstance(node, (ast.Import, ast.ImportFrom)):
                    self.assertIn(node, tree.body)
        self.assertEqual(needs["__init__"], [])
        while needs:
            free = [name for name, modules in needs.items() if not any(module in needs for module in modules)]
            self.assertTrue(free, f"imports go round: {needs}")
            for name in free:
                del needs[name]

    def test_all_that_is_imported_or_private_is_used(self):
        for name, tree in trees():
            used = {node.id for node in ast.walk(tree) if isinstance(node, ast.Name)}
            used |= {node.attr for node in ast.walk(tree) if isinstance(node, ast.Attribute)}
            for node in ast.walk(tree):
                if isinstance(node, ast.ImportFrom):
                    self.assertLessEqual({one.name for one in node.names}, used, name)
                if isinstance(node, ast.FunctionDef) and node.name.startswith("_") and node.name not in DUNDERS:
                    self.assertIn(node.name, used, name)

    def test_names(self):
        for name, tree in trees():
            top = defined(tree) + imported(tree)
            self.assertEqual(len(top), len(set(top)), name)
            classes = {node.name for node in tree.body if isinstance(node, ast.ClassDef)} | set(imported(tree))
            for word, line, is_attribute in bound_names(tree):
                with self.subTest(name, word=word, line=line):
                    self.assertNotIn(word, NEVER)
                    self.assertRegex(word, r"^(_?[A-Za-z][A-Za-z0-9_]*|_|__init__)$")
                    if not is_attribute:
                        self.assertNotIn(word, NO_NAMES)
                        # Doctests give "_" to the builtins.
                        self.assertTrue(word == "_" or not hasattr(builtins, word))
            for node in ast.walk(tree):
                if isinstance(node, ast.FunctionDef):
                    inner = [arg.arg for arg in node.args.args]
                    inner += [one.id for one in ast.walk(node) if isinstance(one, ast.Name) and isinstance(one.ctx, ast.Store)]
                    self.assertFalse(set(inner) & classes, f"{name}: {node.lineno}")

    def test_builtins_and_methods(self):
        own = {node.name for _, tree in trees() for node in ast.walk(tree) if isinstance(node, ast.FunctionDef)}
        for name, tree in trees():
            for node in ast.walk(tree):
                with self.subTest(name, line=getattr(node, "lineno", 0)):
                    if isinstance(node, ast.Name) and isinstance(node.ctx, ast.Load) and hasattr(builtins, node.id):
                        self.assertIn(node.id, BUILTINS)
                    if isinstance(node, ast.Call) and isinstance(node.func, ast.Attribute):
                        self.assertIn(node.func.attr, METHODS | own | DUNDERS)
                    if isinstance(node, ast.FunctionDef) and node.name.startswith("__"):
                        self.assertIn(node.name, DUNDERS)

    def test_attributes(self):
        for name, tree in trees():
            for node in ast.walk(tree):
                if isinstance(node, ast.Attribute) and isinstance(node.ctx, ast.Store):
                    with self.subTest(name, line=node.lineno):
                        for kind in (str, int, list, tuple, dict, set, bytes):
                            self.assertTrue(node.attr in ATTRIBUTES or not hasattr(kind, node.attr))

    def test_no_attribute_has_a_barred_name(self):
        for name, tree in trees():
            for word, line in attributes_set(tree):
                with self.subTest(name, word=word, line=line):
                    self.assertNotIn(word, NO_ATTRIBUTES)

    def test_barred_attributes_are_found_wherever_they_are_set(self):
        for text in ("self.{} = 1", "box.rows[0].{} = 1", "one, (two, *self.{}) = row", "self.{} += 1", "self.{}: int = 1",
                     "for self.{} in rows:\n    pass", "low = box.{} = 1", "with box as self.{}:\n    pass"):
            for word in sorted(NO_ATTRIBUTES):
                self.assertEqual([found for found, _ in attributes_set(ast.parse(text.format(word)))], [word])
        self.assertEqual(list(attributes_set(ast.parse("args = self.args\nself.rows[self.args] = 1"))), [])

    def test_no_name_is_a_method_and_an_attribute(self):
        methods, attributes = set(), set()
        for _, tree in trees():
            for node in ast.walk(tree):
                if isinstance(node, ast.ClassDef):
                    methods |= {inner.name for inner in node.body if isinstance(inner, ast.FunctionDef)}
                if isinstance(node, ast.Attribute) and isinstance(node.ctx, ast.Store):
                    attributes.add(node.attr)
        self.assertEqual(methods & attributes, set())

    def test_strings(self):
        for name, tree in trees():
            told = docstrings(tree)
            for node in ast.walk(tree):
                if isinstance(node, ast.Constant) and isinstance(node.value, str) and node not in told:
                    with self.subTest(name, line=node.lineno):
                        self.assertNotIn(chr(37), node.value)
                        self.assertTrue(all(" " <= sign <= "~" or sign == "\n" for sign in node.value))
                        self.assertFalse(set(node.value.replace(".", " ").split()) & NO_WORDS)
                        self.assertNotIn("__", node.value)
                if isinstance(node, ast.Constant):
                    self.assertNotIsInstance(node.value, (float, complex, bytes))

    def test_tables_at_module_level_stay(self):
        for name, tree in trees():
            tables = [node.targets[0].id for node in tree.body
                      if isinstance(node, ast.Assign) and isinstance(node.value, (ast.List, ast.Dict))]
            for node in ast.walk(tree):
                if isinstance(node, ast.Attribute) and isinstance(node.value, ast.Name) and node.value.id in tables:
                    self.assertIn(node.attr, ("get", "items", "keys", "values", "index", "count"), name)
                if isinstance(node, ast.Subscript) and isinstance(node.ctx, ast.Store):
                    self.assertNotIn(getattr(node.value, "id", None), tables, name)


class Interface(unittest.TestCase):
    def test_names_and_arguments(self):
        for module, rows in INTERFACE.items():
            there = importlib.import_module(f"hornmill.{module}")
            for row in rows:
                name, _, args = row.partition("(")
                with self.subTest(module, name=name):
                    home, _, method = name.partition(".")
                    thing = getattr(there, home)
                    self.assertEqual(thing.__module__, f"hornmill.{module}")
                    if method:
                        self.assertIn(method, vars(thing))
                        thing = getattr(thing, method)
                        args = f"self, {args}" if args != ")" else "self)"
                    if args:
                        self.assertEqual(str(inspect.signature(thing)), f"({args}")


def defined(tree):
    found = []
    for node in tree.body:
        if isinstance(node, (ast.FunctionDef, ast.ClassDef)):
            found.append(node.name)
        if isinstance(node, ast.Assign):
            found += [target.id for target in node.targets]
    return found


def imported(tree):
    return [one.name for node in tree.body if isinstance(node, ast.ImportFrom) for one in node.names]


def attributes_set(tree):
    """The names of all attributes that are set, and their lines."""
    for node in ast.walk(tree):
        if isinstance(node, ast.Attribute) and isinstance(node.ctx, ast.Store):
            yield node.attr, node.lineno


def bound_names(tree):
    """All names that are bound somewhere: the name, its line, whether it is an attribute or a method."""
    for node in ast.walk(tree):
        if isinstance(node, ast.ClassDef):
            yield node.name, node.lineno, False
            for inner in node.body:
                if isinstance(inner, ast.FunctionDef):
                    yield inner.name, inner.lineno, True
        elif isinstance(node, ast.Attribute) and isinstance(node.ctx, ast.Store):
            yield node.attr, node.lineno, True
        elif isinstance(node, ast.Name) and isinstance(node.ctx, ast.Store):
            yield node.id, node.lineno, False
        elif isinstance(node, ast.arg):
            yield node.arg, node.lineno, False
    for node in tree.body:
        if isinstance(node, ast.FunctionDef):
            yield node.name, node.lineno, False


if __name__ == "__main__":
    unittest.main()
