"""The rules of the language, as far as the code itself shows whether they are kept. L1 .. L28 are their numbers."""

import ast
import builtins
import os
import re
import unittest

ROOT = os.path.join(os.path.dirname(os.path.dirname(os.path.abspath(__file__))), "latechunks")
PYTHONS = set(dir(builtins))
LIBRARY = {"heapq": "heappush heappop heapify heapreplace heappushpop", "math": "gcd lcm isqrt comb perm factorial",
           "itertools": "product combinations permutations"}
BUILTINS = set("""len range enumerate zip min max sum abs sorted reversed int str bool list tuple dict set frozenset
    isinstance ord repr any all divmod Exception ValueError TypeError KeyError IndexError LookupError ZeroDivisionError
    ArithmeticError OverflowError RuntimeError NotImplementedError AttributeError StopIteration NotImplemented
    iter next map super property staticmethod classmethod""".split())
METHODS = set("""append clear copy count endswith extend find get index insert isalnum isalpha isdigit islower isspace
    isupper items join keys ljust lower lstrip partition pop remove replace reverse rfind rjust rpartition rsplit rstrip
    setdefault split splitlines startswith strip update upper values zfill bit_length capitalize swapcase casefold
    expandtabs removeprefix removesuffix rindex isascii isdecimal isnumeric istitle isidentifier isprintable""".split())
BARRED = set("""register mro elements open input law version_info with_traceback add_note attrgetter breakpoint builtins
    compile copyright credits delattr dir eval exec exit gc getattr globals hasattr help id importlib license locals
    methodcaller os quit setattr type vars sys""".split())
BARRED_WORDS = set("""type typing typing_extensions enum Enum IntEnum StrEnum Flag IntFlag Generic Protocol ABC ABCMeta
    namedtuple NamedTuple TypedDict TYPE_CHECKING abstractmethod""".split())
BARRED_ATTRIBUTES = set("""items keys values pop update append clear extend insert remove reverse setdefault sort args
    encode decode hex fromhex format format_map mro as_integer_ratio bit_count conjugate from_bytes is_integer to_bytes
    numerator denominator real imag""".split())
UNARY = "__neg__ __pos__ __invert__ __abs__ __bool__ __len__ __str__ __repr__ __iter__ __enter__".split()
BINARY = [f"__{kind}{name}__" for name in "add sub mul floordiv mod pow and or xor lshift rshift".split()
          for kind in ("", "r", "i") if kind + name != "rpow"]
BINARY += "__lt__ __le__ __gt__ __ge__ __ne__ __eq__ __contains__ __getitem__".split()
CHANGING = "append clear extend insert pop remove reverse setdefault sort update add discard".split()
CHANGES_NOTHING = set(UNARY + BINARY) - {"__enter__"} - {f"__i{name[3:]}" for name in BINARY if name[2] == "i"}
NODES = (ast.Module, ast.FunctionDef, ast.ClassDef, ast.Return, ast.Delete, ast.Assign, ast.AugAssign, ast.For,
         ast.While, ast.If, ast.With, ast.Raise, ast.Try, ast.Assert, ast.ImportFrom, ast.Expr, ast.Pass, ast.Break,
         ast.Continue, ast.BoolOp, ast.BinOp, ast.UnaryOp, ast.Lambda, ast.IfExp, ast.Dict, ast.ListComp, ast.SetComp,
         ast.DictComp, ast.Yield, ast.YieldFrom, ast.Compare, ast.Call, ast.FormattedValue, ast.JoinedStr, ast.Constant,
         ast.Attribute, ast.Subscript, ast.Starred, ast.Name, ast.List, ast.Tuple, ast.Slice, ast.expr_context,
         ast.boolop, ast.operator, ast.unaryop, ast.cmpop, ast.comprehension, ast.ExceptHandler, ast.arguments, ast.arg,
         ast.keyword, ast.alias, ast.withitem)


def sources():
    """The pairs of the name of a module and its text."""
    told = []
    for name in sorted(os.listdir(ROOT)):
        if name != "__pycache__":
            with open(os.path.join(ROOT, name), encoding="utf-8") as file:
                told.append((name, file.read()))
    return told


def functions(tree):
    return [node for node in ast.walk(tree) if isinstance(node, ast.FunctionDef)]


def classes(tree):
    return [node for node in ast.walk(tree) if isinstance(node, ast.ClassDef)]


def is_static(function):
    return any(isinstance(one, ast.Name) and one.id == "staticmethod" for one in function.decorator_list)


def is_setter(function):
    return any(isinstance(one, ast.Attribute) and one.attr == "setter" for one in function.decorator_list)


def without_decorators(function):
    """All nodes of a function but those of its decorators."""
    left_out = {id(node) for one in function.decorator_list for node in ast.walk(one)}
    return [node for node in ast.walk(function) if id(node) not in left_out]


def called(node):
    """The bare name that a call calls, the empty string of another node."""
    return node.func.id if isinstance(node, ast.Call) and isinstance(node.func, ast.Name) else ""


def root_of(node):
    """The name that an attribute, an item or a name itself stands off, None of any other node."""
    while isinstance(node, (ast.Attribute, ast.Subscript)):
        node = node.value
    return node.id if isinstance(node, ast.Name) else None


def roots_in(nodes):
    """The names that these nodes read."""
    return {one.id for node in nodes for one in ast.walk(node) if isinstance(one, ast.Name)}


def changed_in(nodes):
    """The pairs of a node that changes something and the name through which it does."""
    for node in (one for start in nodes for one in ast.walk(start)):
        if isinstance(node, (ast.Attribute, ast.Subscript)) and not isinstance(node.ctx, ast.Load):
            yield node, root_of(node)
        if isinstance(node, ast.AugAssign):
            yield node, root_of(node.target)
        if isinstance(node, ast.Call) and isinstance(node.func, ast.Attribute) and node.func.attr in CHANGING:
            yield node, root_of(node.func.value)


def same_objects(function):
    """For each name of a function the names whose objects it may share, as it was given something of them as it is."""
    shared = {}
    for node in ast.walk(function):
        if isinstance(node, ast.Assign):
            values = [node.value.body, node.value.orelse] if isinstance(node.value, ast.IfExp) else [node.value]
            for root in [root_of(value) for value in values]:
                for target in node.targets if root else []:
                    if isinstance(target, ast.Name):
                        shared.setdefault(target.id, {target.id}).add(root)
    for _ in shared:
        for names in shared.values():
            for name in list(names):
                names |= shared.get(name, {name})
    return shared


def is_plain(node):
    """Whether what sorted, min and max take is plainly numbers or strings."""
    if isinstance(node, ast.Constant):
        return True
    if called(node) in ("len", "int", "ord", "str", "repr", "range", "set"):
        return True
    if isinstance(node, (ast.List, ast.Tuple)):
        return all(is_plain(one) for one in node.elts)
    return isinstance(node, ast.ListComp) and is_plain(node.elt)


class LanguageTest(unittest.TestCase):
    def setUp(self):
        self.files = [(name, text, ast.parse(text)) for name, text in sources()]
        self.own_classes = {one.name for _, _, tree in self.files for one in classes(tree)}
        self.methods = {function.name for _, _, tree in self.files for one in classes(tree) for function in one.body
                        if isinstance(function, ast.FunctionDef)}

    def wrong(self, rule, name, node, why=""):
        self.fail(f"{rule}: {name}:{getattr(node, 'lineno', node)} {why}")

    def nodes(self, *kinds):
        for name, _, tree in self.files:
            for node in ast.walk(tree):
                if isinstance(node, kinds):
                    yield name, node

    def test_files_and_characters(self):
        for name, text, _ in self.files:
            self.assertRegex(name, r"\A([a-z][a-z0-9_]*|__init__|__main__)\.py\Z", "L1, L14")
            rows = text.split("\n")
            self.assertLessEqual(len(rows), 400, f"L10: {name}")
            self.assertTrue(text.endswith("\n") or not text, name)
            for at, row in enumerate(rows, 1):
                if len(row) > 120 or not all(" " <= letter <= "~" for letter in row):
                    self.wrong("L10, L14", name, at)
            self.assertNotIn("_wall", text, f"L12: {name}")
            self.assertFalse(re.search(r"\(type\)|Meta|metaclass=", text), f"L17: {name}")

    def test_lengths_of_functions(self):
        for name, node in self.nodes(ast.FunctionDef):
            if node.end_lineno - node.lineno >= 40:
                self.wrong("L10", name, node)

    def test_only_the_nodes_of_the_subset(self):
        for name, node in self.nodes(ast.AST):
            if not isinstance(node, NODES) or isinstance(node, (ast.Div, ast.MatMult)):
                self.wrong("L6, L7", name, node, type(node).__name__)

    def test_module_level(self):
        for name, _, tree in self.files:
            bound = []
            for at, node in enumerate(tree.body):
                if isinstance(node, (ast.FunctionDef, ast.ClassDef)):
                    bound.append(node.name)
                elif isinstance(node, ast.ImportFrom):
                    bound += [one.name for one in node.names]
                elif isinstance(node, ast.Assign) and len(node.targets) == 1 and isinstance(node.targets[0], ast.Name):
                    bound.append(node.targets[0].id)
                    if any(isinstance(one, (ast.Call, ast.Attribute, ast.Lambda)) for one in ast.walk(node)):
                        self.wrong("L3", name, node)
                elif at or not isinstance(node, ast.Expr) or not isinstance(node.value, ast.Constant):
                    self.wrong("L3", name, node)
            self.assertEqual(len(bound), len(set(bound)), f"L15: {name}")

    def test_imports(self):
        homes = {name[:-3]: tree for name, _, tree in self.files}
        uses = {module: [] for module in homes}
        for name, tree in ((name, tree) for name, _, tree in self.files):
            rows = [at for at, node in enumerate(tree.body) if isinstance(node, ast.ImportFrom)]
            self.assertEqual(rows, list(range(1, len(rows) + 1)), f"L2: {name}")
            for node in (tree.body[at] for at in rows):
                if node.module in LIBRARY:
                    good = all(one.name in LIBRARY[node.module].split() for one in node.names)
                else:
                    package, _, module = node.module.partition(".")
                    uses[name[:-3]].append(module)
                    there = {getattr(one, "name", None) for one in homes[module].body}
                    there |= {one.targets[0].id for one in homes[module].body if isinstance(one, ast.Assign)}
                    good = package == "latechunks" and all(one.name in there for one in node.names)
                if not good or node.level or any(one.asname for one in node.names):
                    self.wrong("L2, L16", name, node)
                for one in node.names:
                    if not any(isinstance(used, ast.Name) and used.id == one.name for used in ast.walk(tree)):
                        self.wrong("never used", name, node, one.name)
        done = []
        while len(done) < len(uses):
            free = [module for module in uses if module not in done and all(one in done for one in uses[module])]
            self.assertTrue(free, "L16: imports go round")
            done += free

    def test_names(self):
        for name, _, tree in self.files:
            taken = self.own_classes | {one.name for node in tree.body if isinstance(node, ast.ImportFrom)
                                        for one in node.names}
            known = taken | {getattr(node, "name", None) for node in tree.body}
            known |= {node.targets[0].id for node in tree.body if isinstance(node, ast.Assign)}
            for node in ast.walk(tree):
                word = getattr(node, "id", None) or getattr(node, "arg", None) or getattr(node, "name", None)
                if isinstance(node, ast.alias) or not isinstance(word, str):
                    continue
                if not re.fullmatch(r"_|_?[A-Za-z][A-Za-z0-9_]*", word) and word not in self.methods:
                    self.wrong("L8, L12", name, node, word)
                if word in BARRED or (word in PYTHONS and word not in BUILTINS and word not in self.methods):
                    self.wrong("L8, L15, L17", name, node, word)
                if isinstance(node, ast.arg) or (isinstance(node, ast.Name) and isinstance(node.ctx, ast.Store)):
                    if word in taken or word in PYTHONS:
                        self.wrong("L15", name, node, word)
            for function in functions(tree):
                stored = {node.id for node in ast.walk(function)
                          if isinstance(node, ast.Name) and isinstance(node.ctx, ast.Store)}
                stored |= {node.arg for node in ast.walk(function) if isinstance(node, ast.arg)}
                stored |= {node.name for node in ast.walk(function) if isinstance(node, ast.ExceptHandler)}
                for node in without_decorators(function):
                    if isinstance(node, ast.Name) and isinstance(node.ctx, ast.Load):
                        if node.id == "_" or node.id not in stored | known | set(PYTHONS):
                            self.wrong("L12", name, node, node.id)

    def test_methods_and_attributes(self):
        attributes = {node.attr for _, node in self.nodes(ast.Attribute) if isinstance(node.ctx, ast.Store)}
        self.assertEqual(attributes & (BARRED_ATTRIBUTES | self.methods), set(), "L18, L26")
        self.assertEqual(self.methods & (BARRED_ATTRIBUTES - METHODS), set(), "L26")
        self.assertNotIn("keys", self.methods | attributes, "L5")
        values = {node.targets[0].id for _, one in self.nodes(ast.ClassDef) for node in one.body
                  if isinstance(node, ast.Assign)}
        for name, node in self.nodes(ast.Call):
            if isinstance(node.func, ast.Attribute) and node.func.attr not in METHODS | self.methods:
                self.wrong("L25", name, node, node.func.attr)
        for name, node in self.nodes(ast.Attribute):
            if isinstance(node.ctx, ast.Load) and node.attr not in attributes | self.methods | METHODS | values | {"setter"}:
                self.wrong("L18", name, node, node.attr)

    def test_classes(self):
        for name, node in self.nodes(ast.ClassDef):
            known = {one.name for one in node.body if isinstance(one, ast.FunctionDef)}
            if node.decorator_list or node.keywords or len(node.bases) > 1:
                self.wrong("L5", name, node)
            if "__getitem__" in known and "__iter__" not in known:
                self.wrong("L5", name, node)
            kept = [one for one in node.body if isinstance(one, ast.FunctionDef)]
            single = [one.name for one in kept if not is_setter(one)]
            self.assertEqual(len(known), len(single), f"L18: {node.name}")
            for one in kept:
                if is_setter(one) and (one.name not in single or len(one.args.args) != 2):
                    self.wrong("L5", name, one)
            for function in kept:
                self.look_at_method(name, function)

    def look_at_method(self, name, function):
        special = function.name.startswith("__")
        count = len(function.args.args)
        if special and (function.name not in UNARY + BINARY + ["__init__", "__exit__", "__call__", "__setitem__"]
                        or function.decorator_list or (function.name in UNARY and count != 1)
                        or (function.name in BINARY and count != 2)):
            self.wrong("L5", name, function)
        for one in function.decorator_list:
            word = one.attr if isinstance(one, ast.Attribute) else one.id
            if word not in ("property", "setter", "staticmethod", "classmethod"):
                self.wrong("L5", name, function)
        if not special and not is_static(function) and (not function.args.args or function.args.posonlyargs):
            self.wrong("L5", name, function)
        returns = [node.value for node in ast.walk(function) if isinstance(node, ast.Return)]
        if function.name == "__init__" and returns:
            self.wrong("L28", name, function)
        if function.name in ("__str__", "__repr__"):
            for value in returns:
                joined = isinstance(value, ast.Call) and isinstance(value.func, ast.Attribute) and value.func.attr == "join"
                if not (isinstance(value, (ast.Constant, ast.JoinedStr)) or called(value) in ("str", "repr") or joined):
                    self.wrong("L28", name, function)
        if function.name == "__len__" and not all(called(value) == "len" for value in returns):
            self.wrong("L28", name, function)
        if function.name == "__iter__" and not isinstance(function.body[0], ast.Raise):
            self.assertTrue(len(function.body) == 1 and called(function.body[0].value) == "iter", "L5")
        if function.name == "__exit__":
            for node in function.body:
                plain = isinstance(node, ast.Assign) and isinstance(node.value, (ast.Attribute, ast.Name))
                if not plain or not all(isinstance(one, ast.Attribute) for one in node.targets):
                    self.wrong("L6", name, node)
        if function.name in CHANGES_NOTHING:
            for node in ast.walk(function):
                stores = isinstance(node, (ast.Attribute, ast.Subscript)) and not isinstance(node.ctx, ast.Load)
                if stores or isinstance(node, ast.AugAssign):
                    self.wrong("L5, L28", name, node)

    def test_defaults_and_decorators(self):
        for name, _, tree in self.files:
            inside = {function for one in classes(tree) for function in one.body}
            for function in functions(tree):
                if function.decorator_list and function not in inside:
                    self.wrong("L4", name, function)
                for value in function.args.defaults + function.args.kw_defaults:
                    if any(isinstance(node, (ast.Call, ast.Attribute, ast.List, ast.Dict)) for node in ast.walk(value)):
                        self.wrong("L4", name, function)
                if function.returns or any(isinstance(node, ast.arg) and node.annotation for node in ast.walk(function)):
                    self.wrong("L21", name, function)

    def test_expressions(self):
        for name, node in self.nodes(ast.BinOp, ast.AugAssign, ast.Compare, ast.Constant):
            if isinstance(node, ast.BinOp) and isinstance(node.op, ast.Pow) and not isinstance(node.right, ast.Constant):
                self.wrong("L27", name, node)
            if isinstance(node, ast.AugAssign):
                literal = isinstance(node.value, ast.Constant) and isinstance(node.value.value, int)
                if not literal or not isinstance(node.op, (ast.Add, ast.Sub)):
                    self.wrong("L5", name, node)
            if isinstance(node, ast.Compare) and any(isinstance(op, (ast.Is, ast.IsNot)) for op in node.ops):
                if not all(isinstance(one, ast.Constant) for one in node.comparators):
                    self.wrong("L20", name, node)
            if isinstance(node, ast.Constant):
                if isinstance(node.value, (float, complex, bytes)) or node.value is Ellipsis:
                    self.wrong("L7", name, node)
                if isinstance(node.value, str):
                    self.look_at_string(name, node)

    def look_at_string(self, name, node):
        word = node.value
        if chr(37) in word or word.endswith(("._", ".__")) or re.search(r"(?<![a-z])__", word):
            self.wrong("L27", name, node)
        if BARRED_WORDS & set(re.findall(r"\w+", word)) and "\n" not in word and " " not in word:
            self.wrong("L17", name, node)

    def test_builtins(self):
        for name, node in self.nodes(ast.Call):
            word = called(node)
            if word in ("sorted", "min", "max") and not node.keywords:
                plain = [is_plain(value) for value in node.args]
                if not (all(plain) or (len(plain) == 2 and any(plain))):
                    self.wrong("L5", name, node)
            if word == "reversed" or (isinstance(node.func, ast.Attribute) and node.func.attr == "sort"):
                self.wrong("L5", name, node)
        for name, _, tree in self.files:
            behind = {id(node.func) for node in ast.walk(tree) if isinstance(node, ast.Call)}
            kinds = {id(one) for node in ast.walk(tree) if called(node) == "isinstance" for one in ast.walk(node.args[1])}
            kinds |= {id(one) for node in ast.walk(tree) if isinstance(node, (ast.ClassDef, ast.FunctionDef))
                      for part in getattr(node, "bases", []) + node.decorator_list for one in ast.walk(part)}
            kinds |= {id(node.type) for node in ast.walk(tree) if isinstance(node, ast.ExceptHandler)}
            for node in ast.walk(tree):
                if isinstance(node, ast.Name) and isinstance(node.ctx, ast.Load) and id(node) not in behind | kinds:
                    if node.id in PYTHONS or node.id in self.own_classes:
                        if not any(isinstance(up, ast.Attribute) and up.value is node for up in ast.walk(tree)):
                            self.wrong("L18, L22", name, node, node.id)

    def test_sets_stand_where_they_may(self):
        for name, _, tree in self.files:
            good = {id(one) for node in ast.walk(tree) if called(node) in ("sorted", "len") and not node.keywords
                    for one in node.args}
            for node in ast.walk(tree):
                if (called(node) == "set" or isinstance(node, ast.SetComp)) and id(node) not in good:
                    self.wrong("L24", name, node)

    def test_what_is_iterated_at_once(self):
        for name, _, tree in self.files:
            good = set()
            for node in ast.walk(tree):
                if isinstance(node, (ast.For, ast.comprehension)):
                    good.add(id(node.iter))
                if called(node) in ("list", "tuple", "dict", "sorted", "sum", "any", "all", "enumerate", "zip"):
                    good |= {id(one) for one in node.args}
            for node in ast.walk(tree):
                view = isinstance(node, ast.Call) and isinstance(node.func, ast.Attribute) and node.func.attr == "items"
                if (view or called(node) in ("zip", "enumerate", "range")) and id(node) not in good:
                    self.wrong("L23", name, node)

    def test_generators_are_iterated_at_once(self):
        own = [(node, {one for one in ast.walk(node) if isinstance(one, (ast.Yield, ast.YieldFrom))})
               for _, node in self.nodes(ast.FunctionDef)]
        generators = {node.name for node, yields in own if yields}
        self.assertEqual({node.name for node, yields in own if not yields} & generators, set(), "L23")
        for name, _, tree in self.files:
            good = set()
            for node in ast.walk(tree):
                if isinstance(node, (ast.For, ast.comprehension)):
                    good.add(id(node.iter))
                if isinstance(node, ast.YieldFrom):
                    good.add(id(node.value))
                if called(node) in ("list", "tuple", "dict", "sorted", "sum", "any", "all", "enumerate", "zip"):
                    good |= {id(one) for one in node.args}
            for node in ast.walk(tree):
                word = called(node) or (isinstance(node, ast.Call) and getattr(node.func, "attr", ""))
                if word in generators and id(node) not in good:
                    self.wrong("L23", name, node, word)

    def test_stars_stand_before_names(self):
        for name, node in self.nodes(ast.Call):
            if any(isinstance(one, ast.Starred) and not isinstance(one.value, ast.Name) for one in node.args):
                self.wrong("L7", name, node)
            if any(one.arg is None and not isinstance(one.value, ast.Name) for one in node.keywords):
                self.wrong("L7", name, node)

    def test_no_two_lambdas_on_one_line(self):
        rows = [(name, node.lineno) for name, node in self.nodes(ast.Lambda)]
        self.assertEqual(len(rows), len(set(rows)), "L13")

    def test_what_a_loop_walks_is_not_changed_in_it(self):
        for name, function in self.nodes(ast.FunctionDef):
            shared = same_objects(function)
            for node in ast.walk(function):
                walked, rows = [], []
                if isinstance(node, ast.For):
                    walked, rows = [node.iter], node.body
                elif isinstance(node, (ast.ListComp, ast.DictComp)):
                    walked, rows = [one.iter for one in node.generators], [node]
                roots = {other for root in roots_in(walked) for other in shared.get(root, {root})}
                for change, root in changed_in(rows):
                    if shared.get(root, {root}) & roots:
                        self.wrong("L23", name, change, root)

    def test_errors_are_raised_by_name(self):
        for name, node in self.nodes(ast.Raise, ast.Try):
            if isinstance(node, ast.Raise) and node.exc is not None and not called(node.exc):
                self.wrong("L19", name, node)
            if isinstance(node, ast.Try):
                for handler in node.handlers:
                    if not isinstance(handler.type, ast.Name) or handler.type.id in PYTHONS:
                        self.wrong("L19", name, node)
