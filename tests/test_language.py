"""The package's files held against the rules of the language that can be seen row by row."""

import ast
import builtins
import pathlib
import re
import unittest

PACKAGE = pathlib.Path(__file__).resolve().parent.parent / "patchrows"
SOURCES = {path.name: path.read_text(encoding="utf-8") for path in sorted(PACKAGE.glob("*.py"))}

OWN_NAMES = """len range enumerate zip min max sum abs sorted reversed int str bool list tuple dict set frozenset
isinstance ord repr any all divmod Exception ValueError TypeError KeyError IndexError LookupError ZeroDivisionError
ArithmeticError OverflowError RuntimeError NotImplementedError AttributeError StopIteration""".split()

OWN_METHODS = """append clear copy count endswith extend find get index insert isalnum isalpha isdigit islower isspace
isupper items join keys ljust lower lstrip partition pop remove replace reverse rfind rjust rpartition rsplit rstrip
setdefault split splitlines startswith strip update upper values zfill bit_length""".split()

OUT = """type typing typing_extensions enum Enum IntEnum StrEnum Flag IntFlag Generic Protocol ABC ABCMeta namedtuple
NamedTuple TypedDict TYPE_CHECKING abstractmethod""".split()

STATEMENTS = (ast.Assign, ast.AugAssign, ast.If, ast.While, ast.For, ast.Return, ast.Break, ast.Continue, ast.Pass,
              ast.Raise, ast.Try, ast.Expr, ast.FunctionDef, ast.ClassDef, ast.ImportFrom)
EXPRESSIONS = (ast.BoolOp, ast.BinOp, ast.UnaryOp, ast.IfExp, ast.Compare, ast.Call, ast.Attribute, ast.Subscript,
               ast.Slice, ast.ListComp, ast.Name, ast.Constant, ast.List, ast.Tuple, ast.Dict)
WALKED = ("range", "enumerate", "zip", "reversed")
WALKERS = ("list", "tuple", "dict", "sorted", "sum", "any", "all", "enumerate", "zip", "min", "max")


def nodes(source, *kinds):
    return [node for node in ast.walk(ast.parse(source)) if isinstance(node, kinds)]


def defined(source):
    return [node.name for node in nodes(source, ast.FunctionDef, ast.ClassDef)]


def bound(source):
    stored = [node.id for node in nodes(source, ast.Name) if isinstance(node.ctx, ast.Store)]
    return stored + [node.arg for node in nodes(source, ast.arg)] + defined(source)


def calls_of(source, names):
    return [node for node in nodes(source, ast.Call) if isinstance(node.func, ast.Name) and node.func.id in names]


def walked_on_the_spot(source):
    """Where each thing stands that a loop, a comprehension or a walker walks at once."""
    loops = [node.iter for node in nodes(source, ast.For, ast.comprehension)]
    return [at(node) for node in loops + [call.args[0] for call in calls_of(source, WALKERS) if call.args]]


def at(node):
    return (node.lineno, node.col_offset)


def at_those_within(source, names):
    return [at(call.args[0]) for call in calls_of(source, names)]


class Language(unittest.TestCase):
    def none(self, found):
        self.assertEqual(list(found), [])

    def each(self, seen):
        self.assertIn("history.py", SOURCES)
        self.none((name, what) for name, source in SOURCES.items() for what in seen(source))

    def test_files_rows_and_signs(self):
        self.none(path.name for path in PACKAGE.iterdir() if path.name not in SOURCES and path.name != "__pycache__")
        self.each(lambda source: [row for row in source.split("\n") if len(row) > 120])
        self.each(lambda source: re.findall(r"[^ -~\n]", source))
        self.each(lambda source: [word for word in re.findall(r"\w+", source) if word in OUT])
        self.none(name for name, source in SOURCES.items() if source.count("\n") > 400)

    def test_functions_are_small_and_plain(self):
        self.each(lambda source: [node.name for node in nodes(source, ast.FunctionDef)
                                  if node.end_lineno - node.lineno >= 40 or node.decorator_list
                                  or node.args.vararg or node.args.kwarg or node.args.kwonlyargs])

    def test_statements_and_expressions(self):
        self.each(lambda source: [ast.dump(node) for node in nodes(source, ast.stmt)
                                  if not isinstance(node, STATEMENTS)])
        self.each(lambda source: [ast.dump(node) for node in nodes(source, ast.expr)
                                  if not isinstance(node, EXPRESSIONS)])
        self.each(lambda source: nodes(source, ast.Div))
        self.each(lambda source: [ast.dump(node) for node in nodes(source, ast.Compare)
                                  if isinstance(node.ops[0], (ast.Is, ast.IsNot))
                                  and not isinstance(node.comparators[0], ast.Constant)])
        self.each(lambda source: [ast.dump(node) for node in nodes(source, ast.Assign) if len(node.targets) > 1])

    def test_imports_are_of_the_package_alone_and_never_in_a_ring(self):
        self.each(lambda source: [node.module for node in nodes(source, ast.ImportFrom)
                                  if node.level or not node.module.startswith("patchrows.")])
        drawn = {name: {node.module.split(".")[1] + ".py" for node in nodes(source, ast.ImportFrom)}
                 for name, source in SOURCES.items()}
        while any(not needed for needed in drawn.values()):
            free = [name for name, needed in drawn.items() if not needed]
            drawn = {name: needed - set(free) for name, needed in drawn.items() if needed}
        self.assertEqual(drawn, {})

    def test_names(self):
        known = dir(builtins)
        self.each(lambda source: [name for name in bound(source) if name.startswith("_") and name != "__init__"])
        self.each(lambda source: [name for name in bound(source) if name in known])
        self.each(lambda source: [node.id for node in nodes(source, ast.Name)
                                  if node.id in known and node.id not in OWN_NAMES])

    def test_methods(self):
        own = [name for source in SOURCES.values() for name in defined(source)]
        self.each(lambda source: [node.func.attr for node in nodes(source, ast.Call)
                                  if isinstance(node.func, ast.Attribute) and node.func.attr not in OWN_METHODS + own])
        values = {node.attr for source in SOURCES.values() for node in nodes(source, ast.Attribute)
                  if isinstance(node.ctx, ast.Store)}
        self.none(sorted(values & set(own)))

    def test_what_is_walked_is_not_kept(self):
        self.each(lambda source: [ast.dump(call) for call in calls_of(source, WALKED)
                                  if at(call) not in walked_on_the_spot(source)])

    def test_sets_are_counted_or_sorted_at_once(self):
        self.each(lambda source: [ast.dump(call) for call in calls_of(source, ("set", "frozenset"))
                                  if at(call) not in at_those_within(source, ("len", "sorted"))])

    def test_one_name_takes_what_is_assigned(self):
        self.each(lambda source: [ast.dump(node) for node in nodes(source, ast.Assign)
                                  if isinstance(node.targets[0], (ast.Tuple, ast.List))])
