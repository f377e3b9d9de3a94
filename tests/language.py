"""Finds code that is outside of the subset of ../shared/LANGUAGE.md, so far as the package needs one.

It is narrower than the rules: what the package does not use it does not know, and calls a breach.
"""

import ast
import builtins

LIBRARY = {"heapq": {"heappush", "heappop", "heapify", "heapreplace", "heappushpop"},
           "math": {"gcd", "lcm", "isqrt", "comb", "perm", "factorial"},
           "itertools": {"product", "combinations", "permutations"}}
BUILTINS = set("""len range enumerate zip min max sum abs sorted reversed int str bool list tuple dict set isinstance ord repr
any all divmod ValueError KeyError IndexError ZeroDivisionError StopIteration""".split())
METHODS = set("""append clear copy count endswith extend find get index insert isalnum isalpha isdigit islower isspace
isupper items join keys ljust lower lstrip partition pop remove replace reverse rfind rjust rpartition rsplit rstrip
setdefault split splitlines startswith strip update upper values zfill bit_length add discard""".split())
BARRED = set("""register mro elements open input law version_info with_traceback add_note attrgetter breakpoint builtins
compile copyright credits delattr dir eval exec exit gc getattr globals hasattr help id importlib license locals
methodcaller os quit setattr super type vars sys _cold _tuplegetter _outside _record _written_out _member_names""".split())
BARRED_STARTS = ("__", "_wall", "_pe_", "_dcw_", "_enum_", "_cm_", "_twin_re_", "_lay_", "_law_", "_stub_", "_sre", "_Wall")
BARRED_WORDS = ["_wall", "dataclass", "overload", "contextmanager", "__class__"]
STATEMENTS = (ast.Assign, ast.AugAssign, ast.If, ast.While, ast.For, ast.Return, ast.Break, ast.Continue, ast.Pass,
              ast.Raise, ast.Assert, ast.Delete, ast.Expr, ast.FunctionDef, ast.ClassDef, ast.ImportFrom, ast.Try)
EXPRESSIONS = (ast.BoolOp, ast.BinOp, ast.UnaryOp, ast.IfExp, ast.Compare, ast.Call, ast.Attribute, ast.Subscript,
               ast.Name, ast.Constant, ast.List, ast.Tuple, ast.Dict, ast.Set, ast.ListComp, ast.DictComp, ast.SetComp,
               ast.Slice, ast.Lambda, ast.Starred, ast.JoinedStr, ast.FormattedValue)
LAZY = {"zip", "enumerate", "reversed", "items", "keys", "values", "product", "combinations", "permutations"}
TAKERS = {"list", "tuple", "dict", "sorted", "sum", "any", "all", "enumerate", "zip", "min", "max", "join"}
SPECIAL = {"__init__", "__eq__", "__repr__", "__str__", "__len__"}


class Checker:

    def __init__(self, source, modules):
        self.source = source
        self.modules = modules
        self.tree = ast.parse(source)
        self.told = []
        self.parents = {}
        for node in ast.walk(self.tree):
            for child in ast.iter_child_nodes(node):
                self.parents[child] = node
        self.imported, self.defined = [], []
        self.methods = {one.name for node in ast.walk(self.tree) if isinstance(node, ast.ClassDef)
                        for one in node.body if isinstance(one, ast.FunctionDef)}

    def breach(self, rule, node, what):
        self.told.append((rule, getattr(node, "lineno", node), what))

    def all_breaches(self):
        self.look_at_lines()
        self.look_at_top()
        for node in ast.walk(self.tree):
            self.look_at(node)
        for node in ast.walk(self.tree):
            if isinstance(node, ast.FunctionDef):
                self.look_at_function(node)
        return self.told

    def look_at_lines(self):
        lines = self.source.split("\n")
        if len(lines) > 400:
            self.breach("L10", len(lines), "long file")
        for at, line in enumerate(lines):
            if len(line) > 120:
                self.breach("L10", at + 1, "long line")
            if any(not " " <= sign <= "~" for sign in line):
                self.breach("L14", at + 1, "character")
            for word in BARRED_WORDS:
                if word in line:
                    self.breach("L17", at + 1, word)

    def look_at_top(self):
        body = self.tree.body
        if body and isinstance(body[0], ast.Expr) and isinstance(body[0].value, ast.Constant):
            body = body[1:]
        seen_code = False
        for node in body:
            if isinstance(node, ast.ImportFrom):
                self.look_at_import(node, seen_code)
                continue
            seen_code = True
            if isinstance(node, (ast.FunctionDef, ast.ClassDef)):
                self.defined.append(node.name)
            elif isinstance(node, ast.Assign) and len(node.targets) == 1 and isinstance(node.targets[0], ast.Name):
                self.defined.append(node.targets[0].id)
                for part in ast.walk(node.value):
                    if isinstance(part, (ast.Call, ast.ListComp, ast.DictComp, ast.Lambda, ast.Set)):
                        self.breach("L3", node, "no plain value")
                if isinstance(node.value, (ast.List, ast.Dict, ast.Tuple)):
                    for part in ast.walk(node.value):
                        if part is not node.value and isinstance(part, (ast.List, ast.Dict)):
                            self.breach("L15", node, "a list or dict within a value at module level")
            else:
                self.breach("L3", node, "at module level")
        names = self.imported + self.defined
        for name in names:
            if names.count(name) > 1:
                self.breach("L15", 1, name + " is bound twice")

    def look_at_import(self, node, seen_code):
        if seen_code or node.level:
            self.breach("L2", node, "import")
        for alias in node.names:
            self.imported.append(alias.name)
            good = alias.asname is None
            if node.module in LIBRARY:
                good = good and alias.name in LIBRARY[node.module]
            else:
                package, _, module = node.module.partition(".")
                good = good and package == "lampsaloft" and alias.name in self.modules.get(module, ())
            if not good:
                self.breach("L2", node, "import of " + alias.name)

    def look_at(self, node):
        if isinstance(node, ast.stmt) and not isinstance(node, STATEMENTS):
            self.breach("L6", node, type(node).__name__)
        if isinstance(node, ast.expr) and not isinstance(node, EXPRESSIONS):
            self.breach("L7", node, type(node).__name__)
        kind = type(node).__name__
        if hasattr(self, "see_" + kind):
            getattr(self, "see_" + kind)(node)

    def see_Constant(self, node):
        if isinstance(node.value, (float, complex, bytes)) or node.value is Ellipsis:
            self.breach("L7", node, "constant")
        if isinstance(node.value, str):
            held = self.parents[node]
            plain = isinstance(held, ast.Expr)
            if "%" in node.value or node.value.endswith(("._", ".__")) or node.value.startswith("__"):
                self.breach("L27", node, "string")
            if not plain and node.value in ("type", "typing", "enum", "Enum", "Flag", "ABC", "Generic", "Protocol"):
                self.breach("L17", node, node.value)

    def see_BinOp(self, node):
        if isinstance(node.op, (ast.Div, ast.MatMult)):
            self.breach("L7", node, "sign")
        if isinstance(node.op, ast.Pow):
            if not isinstance(node.right, ast.Constant) or not 0 <= node.right.value <= 64:
                self.breach("L27", node, "exponent")

    see_AugAssign = see_BinOp

    def see_Try(self, node):
        if node.finalbody or node.orelse:
            self.breach("L6", node, "finally or else")
        for handler in node.handlers:
            # Errors of Python's own may be caught in few places: the package catches none.
            if not isinstance(handler.type, ast.Name) or handler.type.id not in self.imported or handler.name:
                self.breach("L19", handler, "caught")

    def see_Raise(self, node):
        if node.cause is not None and not (isinstance(node.cause, ast.Constant) and node.cause.value is None):
            self.breach("L19", node, "cause")
        if not isinstance(node.exc, ast.Call) or not isinstance(node.exc.func, ast.Name):
            self.breach("L19", node, "raised")

    def see_Compare(self, node):
        for sign, right in zip(node.ops, node.comparators):
            if isinstance(sign, (ast.Is, ast.IsNot)):
                if not isinstance(right, ast.Constant) or right.value not in (None, True, False):
                    self.breach("L20", node, "is")

    def see_ClassDef(self, node):
        if node.decorator_list or node.keywords:
            self.breach("L5", node, "class")
        for part in node.body:
            if isinstance(part, ast.FunctionDef):
                if part.name.startswith("__") and part.name not in SPECIAL:
                    self.breach("L5", part, part.name)
            elif not (isinstance(part, ast.Expr) and isinstance(part.value, ast.Constant)):
                self.breach("L5", part, "in a class")

    def see_FunctionDef(self, node):
        if node.decorator_list or node.returns:
            self.breach("L4", node, "function")
        if node.end_lineno - node.lineno + 1 > 40:
            self.breach("L10", node, "long function")
        if node.args.vararg or node.args.kwarg or node.args.kwonlyargs or node.args.posonlyargs:
            self.breach("L4", node, "parameters")
        for default in node.args.defaults:
            if not isinstance(default, ast.Constant):
                self.breach("L4", node, "default value")

    def see_Name(self, node):
        self.see_word(node.id, node)

    def see_arg(self, node):
        self.see_word(node.arg, node)
        if node.annotation:
            self.breach("L21", node, "annotation")

    def see_word(self, word, node):
        if word in BARRED or word.startswith(BARRED_STARTS):
            self.breach("L17", node, word)

    def see_Attribute(self, node):
        if node.attr.startswith("__"):
            if node.attr != "__init__":
                self.breach("L5", node, node.attr)
            return
        held = self.parents[node]
        called = isinstance(held, ast.Call) and held.func is node
        if called and node.attr not in METHODS | self.methods:
            self.breach("L25", node, node.attr)
        if not called and node.attr in METHODS - {"count", "index", "find", "get", "join", "lower", "upper", "add"}:
            self.breach("L26", node, node.attr)

    def see_Call(self, node):
        if isinstance(node.func, ast.Name):
            name = node.func.id
            keywords = {word.arg for word in node.keywords}
            allowed = {"sorted": {"key", "reverse"}, "min": {"key", "default"}, "max": {"key", "default"},
                       "sum": {"start"}, "enumerate": {"start"}}
            if name in BUILTINS and not keywords <= allowed.get(name, set()):
                self.breach("L22", node, "keyword")
            if name in LAZY:
                self.see_lazy(node)
        elif isinstance(node.func, ast.Attribute):
            if node.keywords:
                self.breach("L25", node, "keyword")
            if node.func.attr in LAZY:
                self.see_lazy(node)
        else:
            self.breach("L7", node, "called")
        for part in node.args:
            if isinstance(part, ast.Starred):
                self.breach("L7", node, "star in a call")

    def see_lazy(self, node):
        held = self.parents[node]
        if isinstance(held, (ast.For, ast.comprehension)) and held.iter is node:
            return
        if isinstance(held, ast.Call) and held.args[:1] == [node]:
            name = held.func.id if isinstance(held.func, ast.Name) else held.func.attr
            if name in TAKERS:
                return
        self.breach("L23", node, "not iterated at once")

    def see_Set(self, node):
        held = self.parents[node]
        if not (isinstance(held, ast.Compare) and isinstance(held.ops[0], (ast.In, ast.NotIn))):
            self.breach("L24", node, "set")

    def see_SetComp(self, node):
        self.see_set_made(node)

    def see_set_made(self, node):
        held = self.parents[node]
        if isinstance(held, ast.Call) and isinstance(held.func, ast.Name) and held.func.id in ("len", "sorted"):
            return
        if isinstance(held, ast.Compare) and isinstance(held.ops[0], (ast.In, ast.NotIn)):
            return
        if isinstance(held, ast.Assign) and len(held.targets) == 1 and isinstance(held.targets[0], ast.Name):
            return
        self.breach("L24", node, "set")

    def look_at_function(self, function):
        """What is bound and read in a function: L8, L15, L24."""
        bound = {arg.arg for arg in function.args.args}
        sets = {}
        for node in ast.walk(function):
            if isinstance(node, ast.Name) and isinstance(node.ctx, ast.Store):
                bound.add(node.id)
            if isinstance(node, ast.Lambda):
                bound.update(arg.arg for arg in node.args.args)
            if isinstance(node, ast.FunctionDef) and node is not function:
                self.breach("L4", node, "nested function")
            if isinstance(node, ast.Assign) and self.makes_set(node.value):
                sets[node.targets[0].id] = sets.get(node.targets[0].id, 0) + 1
        classes = [node.name for node in self.tree.body if isinstance(node, ast.ClassDef)]
        for name in bound:
            if name in self.imported or name in classes or (name != "_" and hasattr(builtins, name)):
                self.breach("L15", function, name)
            if name in self.defined:
                self.breach("L15", function, name + " (a name at module level, too)")
        for node in ast.walk(function):
            if isinstance(node, ast.Name) and isinstance(node.ctx, ast.Load):
                known = bound | set(self.imported) | set(self.defined) | BUILTINS
                if node.id not in known:
                    self.breach("L8", node, node.id)
                if node.id == "set":
                    self.see_set_made(self.parents[node])
                if node.id in sets:
                    self.look_at_set(node)
        for name in sets:
            stores = [node for node in ast.walk(function) if isinstance(node, ast.Name) and node.id == name
                      and isinstance(node.ctx, ast.Store)]
            if len(stores) != 1:
                self.breach("L24", function, name + " is assigned again")

    def makes_set(self, value):
        if isinstance(value, ast.SetComp):
            return True
        return isinstance(value, ast.Call) and isinstance(value.func, ast.Name) and value.func.id == "set"

    def look_at_set(self, node):
        held = self.parents[node]
        if isinstance(held, ast.Compare) and node in held.comparators:
            return
        if isinstance(held, ast.Call) and isinstance(held.func, ast.Name) and held.func.id in ("len", "sorted"):
            return
        if isinstance(held, ast.Attribute) and held.attr in ("add", "discard"):
            if isinstance(self.parents[self.parents[held]], ast.Expr):
                return
        self.breach("L24", node, node.id)


def breaches(source, modules):
    """The list of (rule, line, what) of a file, modules leading each module that it may use to its own names."""
    return Checker(source, modules).all_breaches()


def own_names(source):
    """The names that a file defines at module level."""
    told = set()
    for node in ast.parse(source).body:
        if isinstance(node, (ast.FunctionDef, ast.ClassDef)):
            told.add(node.name)
        elif isinstance(node, ast.Assign):
            told.update(target.id for target in node.targets)
    return told
