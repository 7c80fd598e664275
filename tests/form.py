"""Looks at the files of a package: what of LANGUAGE.md a reading of the code can see.

complaints(files) takes a dict from file names (`growths.py`) to their texts, and
gives a list of strings, one for each place that breaks a rule.
"""

import ast
import builtins
import io
import re
import tokenize
import warnings

PACKAGE = "layerpost"
LIBRARY = {"heapq": "heappush heappop heapify heapreplace heappushpop".split(),
           "math": "gcd lcm isqrt comb perm factorial".split()}
BUILTINS = set("""len range enumerate zip min max sum abs sorted reversed int str bool bytes list tuple dict set frozenset
isinstance ord repr any all divmod map iter next Exception ValueError TypeError KeyError IndexError LookupError
ZeroDivisionError ArithmeticError OverflowError RuntimeError NotImplementedError AttributeError StopIteration
NotImplemented property staticmethod classmethod super object""".split())
KEYWORDS = {"sorted": {"key", "reverse"}, "min": {"key", "default"}, "max": {"key", "default"}, "sum": {"start"},
            "enumerate": {"start"}, "zip": {"strict"}}
CHANGING = set("append clear extend insert pop remove reverse setdefault update sort add discard".split())
METHODS = set("""append clear copy count endswith extend find get index insert isalnum isalpha isdigit islower isspace
isupper items join keys ljust lower lstrip partition pop remove replace reverse rfind rjust rpartition rsplit rstrip
setdefault split splitlines startswith strip update upper values zfill bit_length title capitalize swapcase casefold
center expandtabs removeprefix removesuffix rindex isascii isdecimal isnumeric istitle isidentifier isprintable
add discard""".split())
OPERATORS = set("""lt le gt ge ne add sub mul floordiv mod pow and or xor lshift rshift radd rsub rmul rfloordiv rmod rand
ror rxor rlshift rrshift iadd isub imul ifloordiv imod ipow iand ior ixor ilshift irshift neg pos invert abs bool
contains getitem setitem""".split())
DOUBLE = {f"__{name}__" for name in OPERATORS | set("init eq repr str len enter exit call iter".split())}
ONE_OTHER = {f"__{name}__" for name in OPERATORS - set("neg pos invert abs bool contains getitem setitem".split())}
BARRED_EVERYWHERE = set("register mro elements open input law version_info with_traceback add_note".split())
BARRED_NAMES = set("""attrgetter breakpoint builtins compile copyright credits delattr dir eval exec exit gc getattr globals
hasattr help id importlib license locals methodcaller os quit setattr super type vars sys _cold _tuplegetter _outside
_record _written_out _member_names""".split())
BARRED_BEGINNINGS = ("_wall", "_pe_", "_dcw_", "_enum_", "_cm_", "_twin_re_", "_lay_", "_law_", "_stub_", "_sre", "__")
BARRED_WORDS = set("""type typing typing_extensions enum Enum IntEnum StrEnum Flag IntFlag Generic Protocol ABC ABCMeta
namedtuple NamedTuple TypedDict TYPE_CHECKING abstractmethod dataclass overload contextmanager""".split())
BARRED_ATTRIBUTES = set("""items keys values pop update append clear extend insert remove reverse setdefault sort args
encode decode hex fromhex format format_map mro is_integer bit_count conjugate from_bytes to_bytes
as_integer_ratio""".split())
BARRED_FILES = set("test tests testing site conftest sitecustomize usercustomize".split())
ITERATED = {"zip", "enumerate", "reversed", "range", "map"}
VIEWS = {"items", "keys", "values"}
TAKERS = set("list tuple dict sorted sum any all enumerate zip min max bytes".split())
FRAMES = re.compile(r"^(f|tb|co|gi|cr|ag)_[a-z]+$")


def is_plain(node, is_nested=False):
    """Whether a value is plain: written out, perhaps with arithmetic and lists within."""
    if isinstance(node, ast.Constant):
        return isinstance(node.value, (int, str, bytes, type(None)))
    if isinstance(node, ast.UnaryOp) and isinstance(node.op, ast.USub):
        return is_plain(node.operand)
    if isinstance(node, ast.BinOp):
        return is_plain(node.left) and is_plain(node.right)
    if isinstance(node, ast.Tuple) or isinstance(node, ast.List) and not is_nested:
        return all([is_plain(part, True) for part in node.elts])
    if isinstance(node, ast.Dict) and not is_nested:
        return all([key is not None and is_plain(key) for key in node.keys]) and all(
            [is_plain(part, True) for part in node.values])
    return False


def functions_of(tree):
    """All functions and methods of a file."""
    return [node for node in ast.walk(tree) if isinstance(node, ast.FunctionDef)]


def parameters_of(function):
    """All parameters of a function or a lambda."""
    told = function.args
    return [*told.posonlyargs, *told.args, *told.kwonlyargs, *[part for part in (told.vararg, told.kwarg) if part]]


def locals_of(function):
    """The names that a function binds: parameters, targets, nested functions."""
    names = [part.arg for part in parameters_of(function)]
    for node in ast.walk(function):
        if isinstance(node, ast.Name) and isinstance(node.ctx, ast.Store):
            names.append(node.id)
        elif isinstance(node, ast.FunctionDef) and node is not function:
            names.append(node.name)
        elif isinstance(node, ast.ExceptHandler) and node.name:
            names.append(node.name)
    return names


def called_name(node):
    """The bare name that a call calls, None for another call."""
    return node.func.id if isinstance(node, ast.Call) and isinstance(node.func, ast.Name) else None


def method_name(node):
    """The name of the method that a call calls, None for another call."""
    return node.func.attr if isinstance(node, ast.Call) and isinstance(node.func, ast.Attribute) else None


class Look:
    """One look at all files of a package."""

    def __init__(self, files):
        self.files = files
        self.found = []
        self.trees = {}
        for name, text in files.items():
            with warnings.catch_warnings():
                warnings.simplefilter("error")
                try:
                    self.trees[name] = ast.parse(text)
                    compile(text, name, "exec")
                except (SyntaxError, Warning) as error:
                    self.tell(name, None, "L27", f"does not compile without a warning: {error}")
        self.parents = {child: node for tree in self.trees.values() for node in ast.walk(tree)
                        for child in ast.iter_child_nodes(node)}
        self.classes = {node.name: node for tree in self.trees.values() for node in tree.body
                        if isinstance(node, ast.ClassDef)}
        self.methods = {}
        for kind in self.classes.values():
            for node in kind.body:
                if isinstance(node, ast.FunctionDef):
                    self.methods.setdefault(node.name, []).append(node)
        self.functions = {}
        for tree in self.trees.values():
            for node in tree.body:
                if isinstance(node, ast.FunctionDef):
                    self.functions.setdefault(node.name, []).append(node)
        every = [node for tree in self.trees.values() for node in functions_of(tree)]
        yielding = [node for node in every if [part for part in ast.walk(node) if isinstance(part, (ast.Yield, ast.YieldFrom))]]
        # All functions and methods with `yield`, by name; and the others of these names.
        self.generators = {node.name for node in yielding}
        self.others = {node.name for node in every if node.name in self.generators and node not in yielding}

    def tell(self, name, node, rule, what):
        line = getattr(node, "lineno", 0)
        self.found.append(f"{name}:{line}: {rule}: {what}")

    def all(self):
        for name, tree in self.trees.items():
            self.look_text(name)
            self.look_tokens(name)
            self.look_imports(name, tree)
            self.look_module(name, tree)
            self.look_names(name, tree)
            self.look_values(name, tree)
            self.look_calls(name, tree)
            self.look_loops(name, tree)
            self.look_generators(name, tree)
            self.look_sets(name, tree)
            self.look_errors(name, tree)
            for node in tree.body:
                if isinstance(node, ast.ClassDef):
                    self.look_class(name, node)
            for node in functions_of(tree):
                self.look_function(name, tree, node)
        self.look_circles()
        self.look_attributes()
        self.look_operators()
        return self.found

    def look_text(self, name):
        text = self.files[name]
        stem = name[:-3]
        if name == "__init__.py":
            stem = "init"
        if not re.fullmatch(r"[a-z0-9_]+\.py", name) or stem in BARRED_FILES or hasattr(builtins, stem):
            self.tell(name, None, "L14", "the name of the file")
        if stem in BARRED_EVERYWHERE | BARRED_WORDS or stem.startswith(("law_", "test_")):
            self.tell(name, None, "L14", "the name of the file")
        lines = text.split("\n")
        if len(lines) - 1 > 399:
            self.tell(name, None, "L10", "too long a file")
        for at, line in enumerate(lines):
            if len(line) > 120:
                self.found.append(f"{name}:{at + 1}: L10: too long a line")
            if not all([" " <= sign <= "~" for sign in line]):
                self.found.append(f"{name}:{at + 1}: L14: a character")
        for barred in ("_WallAttr", "(type)", "Meta", "metaclass="):
            if barred in text:
                self.tell(name, None, "L12", barred)
        if re.search(r"\b_wall\b", text):
            self.tell(name, None, "L12", "_wall")

    def look_tokens(self, name):
        for token in tokenize.generate_tokens(io.StringIO(self.files[name]).readline):
            if token.type != tokenize.STRING:
                continue
            if "%" in token.string:
                self.found.append(f"{name}:{token.start[0]}: L27: a percent sign")
            if re.search(r"\\(?![nt\\'\"])", token.string.replace("\\\\", "")):
                self.found.append(f"{name}:{token.start[0]}: L27: an escape")
            if token.string[0] in "rRbBuU":
                self.found.append(f"{name}:{token.start[0]}: L27: a prefix")

    def look_imports(self, name, tree):
        is_behind = False
        for at, node in enumerate(tree.body):
            if isinstance(node, (ast.Import, ast.ImportFrom)) and is_behind:
                self.tell(name, node, "L2", "an import that is not at the top")
            is_behind = is_behind or not (isinstance(node, (ast.Import, ast.ImportFrom)) or at == 0)
        for node in ast.walk(tree):
            if isinstance(node, ast.Import):
                self.tell(name, node, "L2", "an import of a module")
            if not isinstance(node, ast.ImportFrom):
                continue
            told = [alias.name for alias in node.names]
            if node.level or [alias for alias in node.names if alias.asname]:
                self.tell(name, node, "L2", "a dot, or as")
            elif node.module in LIBRARY:
                if not set(told) <= set(LIBRARY[node.module]):
                    self.tell(name, node, "L2", "a name of the library")
            elif node.module.startswith(PACKAGE + ".") and node.module.count(".") == 1:
                other = self.trees.get(node.module.split(".")[1] + ".py")
                defined = [] if other is None else self.defined_in(other)
                for word in told:
                    if word not in defined:
                        self.tell(name, node, "L16", f"{word} is not defined in {node.module}")
            elif node.module != "__future__" or told != ["annotations"]:
                self.tell(name, node, "L2", f"an import from {node.module}")

    def defined_in(self, tree):
        names = [node.name for node in tree.body if isinstance(node, (ast.FunctionDef, ast.ClassDef))]
        return names + [node.targets[0].id for node in tree.body
                        if isinstance(node, ast.Assign) and isinstance(node.targets[0], ast.Name)]

    def imported_in(self, tree):
        return [alias.name for node in tree.body if isinstance(node, ast.ImportFrom) for alias in node.names]

    def is_table(self, tree, at):
        """Whether a list, tuple or dict at module level holds plain values and functions that are defined above it."""
        above = [node.name for node in tree.body[:at] if isinstance(node, ast.FunctionDef)]
        value = tree.body[at].value
        keys = [key for key in value.keys] if isinstance(value, ast.Dict) else []
        parts = value.values if isinstance(value, ast.Dict) else getattr(value, "elts", [])
        return isinstance(value, (ast.Dict, ast.List, ast.Tuple)) and all([key is not None and is_plain(key) for key in keys]) and all(
            [is_plain(part, True) or isinstance(part, ast.Name) and part.id in above for part in parts])

    def look_module(self, name, tree):
        for at, node in enumerate(tree.body):
            is_docstring = at == 0 and isinstance(node, ast.Expr) and isinstance(node.value, ast.Constant)
            is_value = isinstance(node, ast.Assign) and len(node.targets) == 1 and isinstance(
                node.targets[0], ast.Name) and (is_plain(node.value) or self.is_table(tree, at))
            if not is_docstring and not is_value and not isinstance(
                    node, (ast.ImportFrom, ast.Import, ast.FunctionDef, ast.ClassDef)):
                self.tell(name, node, "L3", "a statement at module level")
        names = self.defined_in(tree) + self.imported_in(tree)
        for word in sorted(set(names)):
            if names.count(word) > 1:
                self.tell(name, None, "L15", f"{word} is bound twice")
        for node in ast.walk(tree):
            if isinstance(node, ast.ClassDef) and self.parents[node] is not tree:
                self.tell(name, node, "L15", "a class that is not at module level")

    def look_names(self, name, tree):
        files_own = [node.name for node in tree.body if isinstance(node, ast.ClassDef)] + self.imported_in(tree)
        bound = [(node, word) for node in functions_of(tree) for word in locals_of(node)]
        for node, word in bound:
            if word in files_own:
                self.tell(name, node, "L15", f"{word} is a class or an import of this file")
        bound += [(node, part.arg) for node in ast.walk(tree) if isinstance(node, ast.Lambda)
                  for part in parameters_of(node)]
        bound += [(tree, word) for word in self.defined_in(tree)]
        for node, word in bound:
            if hasattr(builtins, word):
                self.tell(name, node, "L15", f"{word} is a builtin")
            self.look_name(name, node, word)
        for node in ast.walk(tree):
            if isinstance(node, ast.Name) and isinstance(node.ctx, ast.Load):
                if node.id == "_":
                    self.tell(name, node, "L12", "_ is read")
                if hasattr(builtins, node.id) and node.id not in BUILTINS:
                    self.tell(name, node, "L8", f"{node.id} is no builtin of the list")
            elif isinstance(node, ast.Attribute):
                if node.attr in BARRED_EVERYWHERE or FRAMES.match(node.attr):
                    self.tell(name, node, "L17", node.attr)
                if node.attr.startswith("__") and node.attr not in ("__init__", "__class__", "__name__"):
                    self.tell(name, node, "L8", node.attr)
            elif isinstance(node, ast.keyword) and node.arg in ("open", "input", "self"):
                self.tell(name, node.value, "L22", node.arg)

    def look_name(self, name, node, word):
        if not re.fullmatch(r"_?[A-Za-z][A-Za-z0-9_]*|_", word):
            self.tell(name, node, "L12", word)
        if word in BARRED_EVERYWHERE | BARRED_NAMES | BARRED_WORDS or word.startswith(BARRED_BEGINNINGS):
            self.tell(name, node, "L17", word)
        if FRAMES.match(word):
            self.tell(name, node, "L17", word)

    def look_values(self, name, tree):
        docstrings = [node.body[0].value for node in ast.walk(tree)
                      if isinstance(node, (ast.Module, ast.ClassDef, ast.FunctionDef)) and node.body
                      and isinstance(node.body[0], ast.Expr)]
        for node in ast.walk(tree):
            if isinstance(node, ast.Constant):
                if not isinstance(node.value, (int, str, bytes, type(None))):
                    self.tell(name, node, "L7", "a float or the like")
                if isinstance(node.value, str) and node not in docstrings:
                    self.look_string(name, node)
            elif isinstance(node, (ast.Div, ast.MatMult)):
                self.tell(name, None, "L7", "an operator")
            elif isinstance(node, ast.BinOp) and isinstance(node.op, ast.Pow):
                power = node.right
                if not isinstance(power, ast.Constant) or not 0 <= power.value <= 64:
                    self.tell(name, node, "L27", "a power")
            elif isinstance(node, (ast.GeneratorExp, ast.Global, ast.AsyncFunctionDef, ast.Await, ast.AsyncFor,
                                   ast.AsyncWith, ast.TryStar, ast.NamedExpr)):
                self.tell(name, node, "L6", type(node).__name__)
            elif isinstance(node, ast.Compare):
                for sign, part in zip(node.ops, node.comparators):
                    plain = isinstance(part, ast.Constant) and part.value in (None, True, False)
                    if isinstance(sign, (ast.Is, ast.IsNot)) and not plain:
                        self.tell(name, node, "L20", "is")
            elif isinstance(node, (ast.AnnAssign, ast.arg)) and node.annotation is not None:
                self.tell(name, node, "L21", "an annotation")
            elif isinstance(node, ast.FormattedValue) and node.conversion not in (-1, ord("r"), ord("s")):
                self.tell(name, node, "L7", "a conversion")

    def look_string(self, name, node):
        text = node.value
        if text.endswith(("._", ".__")) or re.fullmatch(r"__.*__", text) or FRAMES.match(text):
            self.tell(name, node, "L27", "a string")
        if set(re.findall(r"\w+", text)) & (BARRED_WORDS - {"type"}):
            self.tell(name, node, "L17", "a string")

    def look_calls(self, name, tree):
        library = [alias.name for node in tree.body if isinstance(node, ast.ImportFrom) and node.module in LIBRARY
                   for alias in node.names]
        for node in ast.walk(tree):
            if isinstance(node, ast.Name) and node.id in library and isinstance(node.ctx, ast.Load):
                call = self.parents[node]
                if called_name(call) != node.id or call.keywords or [
                        part for part in call.args if isinstance(part, ast.Starred)]:
                    self.tell(name, node, "L2", f"{node.id} is not called by position")
            if not isinstance(node, ast.Call):
                continue
            word = called_name(node)
            if word in BUILTINS:
                barred = {key.arg for key in node.keywords} - KEYWORDS.get(word, set())
                if barred:
                    self.tell(name, node, "L22", f"{sorted(map(str, barred))} of {word}")
                if word in ("any", "all", "min", "max", "sum", "sorted") and [
                        part for part in node.args if isinstance(part, ast.GeneratorExp)]:
                    self.tell(name, node, "L7", "a generator expression")
            attr = method_name(node)
            if attr is not None and attr not in METHODS and attr not in self.methods:
                self.tell(name, node, "L25", f"the method {attr}")
            if attr in METHODS and node.keywords:
                self.tell(name, node, "L25", f"keywords of {attr}")
            self.look_stars(name, node)
            self.look_many(name, node, word)

    def look_stars(self, name, node):
        stars = [at for at, part in enumerate(node.args) if isinstance(part, ast.Starred)]
        if stars:
            behind = [*node.args[stars[0]:], *[key.value for key in node.keywords]]
            for part in [part.value if isinstance(part, ast.Starred) else part for part in behind]:
                if not isinstance(part, (ast.Name, ast.Attribute, ast.Constant)):
                    self.tell(name, node, "L7", "a star in a call")

    def look_many(self, name, node, word):
        told = self.functions.get(word, [])
        if word in self.classes:
            told = [part for part in self.classes[word].body
                    if isinstance(part, ast.FunctionDef) and part.name == "__init__"]
        if len(told) != 1 or [part for part in node.args if isinstance(part, ast.Starred)] or [
                key for key in node.keywords if key.arg is None]:
            return
        function = told[0].args
        names = [part.arg for part in function.args][1 if word in self.classes else 0:]
        least = len(names) - len(function.defaults)
        given = names[:len(node.args)] + [key.arg for key in node.keywords]
        is_known = set(given) <= set(names) | {part.arg for part in function.kwonlyargs}
        is_full = set(names[:least]) <= set(given)
        is_fit = function.vararg is not None or len(node.args) <= len(names)
        if not is_known or not is_full or not is_fit or len(given) > len(set(given)):
            self.tell(name, node, "L22", f"{word} is passed other arguments")

    def look_loops(self, name, tree):
        for node in ast.walk(tree):
            word = called_name(node)
            if word in ITERATED or method_name(node) in VIEWS:
                parent = self.parents[node]
                is_loop = isinstance(parent, (ast.For, ast.comprehension)) and parent.iter is node
                taker = called_name(parent)
                is_taken = taker in TAKERS or taker == "len" and word == "range"
                is_taken = is_taken or taker == "reversed" and word == "range"
                is_asked = word == "range" and isinstance(parent, ast.Compare)
                if not is_loop and not is_taken and method_name(parent) != "join" and not is_asked:
                    self.tell(name, node, "L23", "is not iterated at once")
            if isinstance(node, ast.For):
                self.look_loop(name, node)

    def look_loop(self, name, loop):
        over = [part.id for part in ast.walk(loop.iter) if isinstance(part, ast.Name)]
        if isinstance(loop.iter, ast.Call) and called_name(loop.iter) in ("range", "list", "sorted", "tuple"):
            over = []
        for part in [part for row in loop.body for part in ast.walk(row)]:
            changed = None
            if method_name(part) in CHANGING and isinstance(part.func.value, ast.Name):
                changed = part.func.value.id
            if isinstance(part, ast.Subscript) and not isinstance(part.ctx, ast.Load) and isinstance(part.value, ast.Name):
                changed = part.value.id
            if changed in over:
                self.tell(name, part, "L23", f"{changed} is changed in its loop")

    def look_generators(self, name, tree):
        told = self.generators
        for node in functions_of(tree):
            if node.name not in told:
                continue
            # The interface has two generators of one name: then none of that name is anything else.
            if node.decorator_list or node.name.startswith("__") or node.name in METHODS or node.name in self.others:
                self.tell(name, node, "L23", f"a generator {node.name}")
            for part in ast.walk(node):
                is_yield = isinstance(part, (ast.Yield, ast.YieldFrom))
                if is_yield and not isinstance(self.parents[part], ast.Expr):
                    self.tell(name, part, "L23", "a yield that is no statement")
                if isinstance(part, ast.Return) and part.value is not None:
                    self.tell(name, part, "L23", "a generator returns something")
                if isinstance(part, (ast.Try, ast.With)):
                    self.tell(name, part, "L23", "a generator with a try")
        for node in ast.walk(tree):
            if isinstance(node, ast.Name) and node.id in told and isinstance(node.ctx, ast.Load):
                if called_name(self.parents[node]) != node.id:
                    self.tell(name, node, "L23", f"{node.id} is a value")
            if called_name(node) not in told and method_name(node) not in told:
                continue
            parent = self.parents[node]
            is_loop = isinstance(parent, (ast.For, ast.comprehension)) and parent.iter is node
            is_taken = called_name(parent) in ("list", "tuple", "dict", "sorted", "sum", "enumerate", "zip")
            if not is_loop and not is_taken and not isinstance(parent, ast.YieldFrom):
                self.tell(name, node, "L23", "a generator is not iterated at once")

    def look_sets(self, name, tree):
        for node in ast.walk(tree):
            if isinstance(node, (ast.Set, ast.SetComp)) or called_name(node) in ("set", "frozenset"):
                parent = self.parents[node]
                is_asked = isinstance(parent, ast.Compare) and not isinstance(parent.ops[0], (ast.Lt, ast.LtE, ast.Gt, ast.GtE))
                if called_name(node) == "frozenset" or called_name(parent) not in ("len", "sorted") and not is_asked:
                    self.tell(name, node, "L24", "a set that is kept")

    def look_errors(self, name, tree):
        own = set(self.classes)
        for node in ast.walk(tree):
            if isinstance(node, ast.Raise) and node.exc is not None:
                if called_name(node.exc) not in own | {"TypeError"}:
                    self.tell(name, node, "L19", "what is raised is not made on the spot")
            elif isinstance(node, ast.ExceptHandler):
                kinds = node.type.elts if isinstance(node.type, ast.Tuple) else [node.type]
                for kind in kinds:
                    if not isinstance(kind, ast.Name) or kind.id not in own | {"KeyError", "ZeroDivisionError"}:
                        self.tell(name, node, "L19", "what is caught is no own error")

    def look_class(self, name, kind):
        names = [node.name for node in kind.body if isinstance(node, ast.FunctionDef)]
        if len(names) > len(set(names)):
            self.tell(name, kind, "L18", "a method is defined twice")
        if "__getitem__" in names and "__iter__" not in names:
            self.tell(name, kind, "L5", "__getitem__ without __iter__")
        if kind.decorator_list or kind.keywords or not all([isinstance(base, ast.Name) for base in kind.bases]):
            self.tell(name, kind, "L5", "a decorator or a base")
        for node in kind.body:
            is_docstring = isinstance(node, ast.Expr) and isinstance(node.value, ast.Constant)
            is_value = isinstance(node, ast.Assign) and isinstance(node.targets[0], ast.Name) and is_plain(node.value)
            if not is_docstring and not is_value and not isinstance(node, (ast.FunctionDef, ast.Pass)):
                self.tell(name, node, "L5", "a statement in a class")
            if not isinstance(node, ast.FunctionDef):
                continue
            for mark in node.decorator_list:
                if not isinstance(mark, ast.Name) or mark.id not in ("property", "staticmethod", "classmethod"):
                    self.tell(name, node, "L5", "a decorator")
            if node.name.startswith("__"):
                self.look_double(name, node)
            elif node.name in METHODS | BARRED_ATTRIBUTES or node.name in BUILTINS:
                self.tell(name, node, "L26", f"a method {node.name}")

    def look_double(self, name, node):
        if node.name not in DOUBLE:
            self.tell(name, node, "L5", node.name)
        if node.decorator_list:
            self.tell(name, node, "L5", "a decorator")
        names = [part.arg for part in node.args.args]
        if node.name in ONE_OTHER and (names != ["self", "other"] or node.args.vararg or node.args.defaults):
            self.tell(name, node, "L5", f"{node.name} takes self and other")
        returns = [part for part in ast.walk(node) if isinstance(part, ast.Return)]
        if node.name == "__init__" and [part for part in returns if part.value is not None]:
            self.tell(name, node, "L28", "__init__ returns something")
        if node.name in ("__eq__", "__str__", "__repr__", "__len__"):
            if [part for part in ast.walk(node) if isinstance(part, (ast.Assign, ast.AugAssign, ast.Delete, ast.For))]:
                self.tell(name, node, "L28", f"{node.name} assigns")
            if not isinstance(node.body[-1], ast.Return):
                self.tell(name, node, "L28", f"{node.name} does not end with return")
        for part in returns:
            value = part.value
            if node.name == "__len__" and called_name(value) != "len" and not isinstance(value, ast.Constant):
                self.tell(name, node, "L28", "__len__ returns another thing")
            is_text = isinstance(value, ast.JoinedStr) or called_name(value) in ("str", "repr") or (
                method_name(value) == "join" and isinstance(value.func.value, ast.Constant))
            if node.name in ("__str__", "__repr__") and not is_text:
                self.tell(name, node, "L28", f"{node.name} returns another thing")

    def look_exit(self, name, node):
        """What stands in an `__exit__`: attributes that are assigned, and tests whether there is an error."""
        names = [part.arg for part in node.args.args]
        if names != ["self", "kind", "value", "trace"]:
            self.tell(name, node, "L6", "__exit__ takes self, kind, value and trace")
        for part in [part for row in node.body for part in ast.walk(row)]:
            is_row = isinstance(part, ast.Assign) and all([isinstance(word, ast.Attribute) for word in part.targets])
            if isinstance(part, ast.stmt) and not is_row and not isinstance(part, (ast.If, ast.Pass)):
                self.tell(name, part, "L6", "a row of __exit__")
            if is_row and not isinstance(part.value, (ast.Attribute, ast.Name, ast.Constant, ast.List)):
                self.tell(name, part, "L6", "what __exit__ assigns")
            if isinstance(part, ast.If) and ast.unparse(part.test) not in ("kind is None", "kind is not None"):
                self.tell(name, part, "L6", "what __exit__ asks")
            if isinstance(part, ast.Name) and part.id in ("value", "trace"):
                self.tell(name, part, "L6", f"__exit__ reads {part.id}")

    def look_with(self, name, node):
        for item in node.items:
            if item.optional_vars is not None and not isinstance(item.optional_vars, ast.Name):
                self.tell(name, node, "L6", "a block as something that is no name")
            if not isinstance(item.context_expr, (ast.Call, ast.Name, ast.Attribute)):
                self.tell(name, node, "L6", "a block over no call, name or attribute")

    def look_function(self, name, tree, node):
        if node.name == "__exit__":
            self.look_exit(name, node)
        for part in ast.walk(node):
            if isinstance(part, ast.With):
                self.look_with(name, part)
        if node.end_lineno - node.lineno + 1 > 40:
            self.tell(name, node, "L10", "too long a function")
        if node.decorator_list and not isinstance(self.parents[node], ast.ClassDef):
            self.tell(name, node, "L4", "a decorator")
        for value in [*node.args.defaults, *[part for part in node.args.kw_defaults if part is not None]]:
            if not is_plain(value) or isinstance(value, (ast.List, ast.Dict)):
                self.tell(name, node, "L4", "a default value")
        if node.returns is not None:
            self.tell(name, node, "L21", "an annotation")
        if node.name.startswith("__") and not isinstance(self.parents[node], ast.ClassDef):
            self.tell(name, node, "L28", f"{node.name} outside of a class")

    def look_circles(self):
        reach = {name: {node.module.split(".")[1] + ".py" for node in tree.body if isinstance(node, ast.ImportFrom)
                        and node.module.startswith(PACKAGE + ".")} for name, tree in self.trees.items()}
        for name in reach:
            seen, left = set(), [name]
            while left:
                for other in reach.get(left.pop(), set()) - seen:
                    seen.add(other)
                    left.append(other)
            if name in seen:
                self.tell(name, None, "L16", "files import from each other")

    def look_attributes(self):
        stored, marked = set(), set()
        for kind in self.classes.values():
            marked |= {node.targets[0].id for node in kind.body if isinstance(node, ast.Assign)}
        loads = []
        for name, tree in self.trees.items():
            for node in ast.walk(tree):
                if isinstance(node, ast.Attribute):
                    if isinstance(node.ctx, ast.Load):
                        loads.append((name, node))
                    else:
                        stored.add(node.attr)
                        if node.attr in BARRED_ATTRIBUTES:
                            self.tell(name, node, "L26", f"an attribute {node.attr}")
        for word in sorted(stored & set(self.methods)):
            self.tell(PACKAGE, None, "L18", f"{word} is a method and an attribute")
        for word in sorted(marked & (stored | set(self.methods))):
            self.tell(PACKAGE, None, "L5", f"{word} is a class value and something else")
        for name, node in loads:
            call = self.parents[node]
            if isinstance(call, ast.Call) and call.func is node:
                continue
            is_property = [part for part in self.methods.get(node.attr, []) if [
                mark for mark in part.decorator_list if isinstance(mark, ast.Name) and mark.id == "property"]]
            if node.attr not in stored | marked | {"__class__", "__name__"} and not is_property:
                self.tell(name, node, "L18", f"{node.attr} is read and never assigned, or a method is passed on")

    def look_operators(self):
        """What operators, properties and texts run changes nothing that it did not make."""
        names = {node: name for name, tree in self.trees.items() for node in functions_of(tree)}
        left = []
        for kind in self.classes.values():
            for node in kind.body:
                if isinstance(node, ast.FunctionDef):
                    is_property = [mark for mark in node.decorator_list if getattr(mark, "id", "") == "property"]
                    is_quiet = node.name.startswith("__") and node.name not in (
                        "__init__", "__call__", "__iter__", "__enter__", "__exit__")
                    if is_property or is_quiet:
                        left.append(node)
        seen = set(left)
        while left:
            node = left.pop()
            self.look_quiet(names[node], node)
            for call in ast.walk(node):
                word = called_name(call)
                told = self.functions.get(word, []) + self.methods.get(method_name(call), [])
                if word in self.classes:
                    told = [part for part in self.classes[word].body
                            if isinstance(part, ast.FunctionDef) and part.name == "__init__"]
                for other in told:
                    if other not in seen:
                        seen.add(other)
                        left.append(other)

    def look_quiet(self, name, function):
        made = {}
        for node in ast.walk(function):
            if isinstance(node, ast.Assign) and len(node.targets) == 1 and isinstance(node.targets[0], ast.Name):
                value = node.value
                is_made = isinstance(value, (ast.List, ast.Dict, ast.ListComp)) or called_name(value) in (
                    "list", "dict", "sorted")
                word = node.targets[0].id
                made[word] = made.get(word, True) and is_made
        given = [part.arg for part in parameters_of(function)]
        for node in ast.walk(function):
            if called_name(node) in given:
                self.tell(name, node, "L5", "an operator calls what it is passed")
            if isinstance(node, ast.Attribute) and isinstance(node.ctx, ast.Store) and function.name != "__init__":
                self.tell(name, node, "L5", "an operator assigns an attribute")
            owner = None
            if isinstance(node, ast.Subscript) and not isinstance(node.ctx, ast.Load):
                owner = node.value
            if method_name(node) in CHANGING:
                owner = node.func.value
            if owner is not None and not (isinstance(owner, ast.Name) and made.get(owner.id, False)):
                self.tell(name, node, "L5", "an operator changes what it did not make")
            if method_name(node) in ("sort", "add", "discard") or called_name(node) == "map":
                self.tell(name, node, "L5", "an operator sorts, adds or maps")
            if isinstance(node, ast.AugAssign):
                is_count = isinstance(node.value, ast.Constant) and isinstance(node.value.value, int)
                if not isinstance(node.target, ast.Name) or not is_count or not isinstance(
                        node.op, (ast.Add, ast.Sub, ast.FloorDiv)):
                    self.tell(name, node, "L5", "an operator assigns in place")


def complaints(files):
    """All places of these files that break a rule."""
    return Look(files).all()
