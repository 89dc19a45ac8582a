"""Those rules of LANGUAGE.md that can be seen in a file's text or tree, one finding a line: rule, file, line."""

import ast
import builtins
import io
import os
import re
import tokenize

PACKAGE = os.path.join(os.path.dirname(os.path.dirname(os.path.abspath(__file__))), "everyload")

BUILTINS = set("""len range enumerate zip min max sum abs sorted reversed int str bool list tuple dict set frozenset
isinstance ord repr any all divmod iter next map Exception ValueError TypeError KeyError IndexError LookupError
ZeroDivisionError ArithmeticError OverflowError RuntimeError NotImplementedError AttributeError StopIteration
NotImplemented object property staticmethod classmethod super""".split())
METHODS = set("""append clear copy count endswith extend find get index insert isalnum isalpha isdigit islower isspace
isupper items join keys ljust lower lstrip partition pop remove replace reverse rfind rjust rpartition rsplit rstrip
setdefault split splitlines startswith strip update upper values zfill bit_length title capitalize swapcase casefold
center expandtabs removeprefix removesuffix rindex isascii isdecimal isnumeric istitle isidentifier isprintable add
discard""".split())
TAKEN = (set(dir(str)) | set(dir(int)) | set(dir(list)) | set(dir(dict)) | set(dir(set)) | set(dir(bytes)))
SPECIAL = set("""__init__ __eq__ __repr__ __str__ __len__ __enter__ __exit__ __call__ __iter__ __lt__ __le__ __gt__
__ge__ __ne__ __add__ __sub__ __mul__ __and__ __or__ __rmul__ __contains__ __getitem__""".split())
NEVER = {"register", "mro", "elements", "open", "input", "law", "version_info", "with_traceback", "add_note"}
WORDS = ("typing enum Enum IntEnum StrEnum Flag IntFlag Generic Protocol ABC ABCMeta namedtuple NamedTuple "
         "TypedDict TYPE_CHECKING abstractmethod type").split()
LIBRARY = {"heapq": {"heappush", "heappop", "heapify"}, "math": {"gcd", "lcm", "isqrt"},
           "itertools": {"product", "combinations", "chain"}, "collections": {"defaultdict", "deque"}}
AT_ONCE = {"zip", "enumerate", "reversed", "range"}
VIEWS = {"items", "keys", "values"}
TAKERS = {"list", "tuple", "dict", "sorted", "sum", "any", "all", "enumerate", "zip", "min", "max"}
PLAIN = (ast.Import, ast.ImportFrom, ast.FunctionDef, ast.ClassDef, ast.Assign, ast.Expr)
BARRED = (ast.AsyncFunctionDef, ast.AsyncFor, ast.AsyncWith, ast.Await, ast.Global, ast.Set, ast.GeneratorExp,
          ast.AnnAssign, ast.Import)


def files():
    found = []
    for folder, _, names in os.walk(PACKAGE):
        for name in sorted(names):
            if not folder.endswith("__pycache__"):
                found.append(os.path.join(folder, name))
    return found


class Reader:
    """Gathers the findings in one file."""

    def __init__(self, path, own):
        self.path = path
        self.own = own
        with open(path, encoding="utf-8", newline="") as file:
            self.text = file.read()
        self.tree = ast.parse(self.text)
        self.found = []
        self.parents = {}
        for node in ast.walk(self.tree):
            for child in ast.iter_child_nodes(node):
                self.parents[child] = node

    def say(self, rule, line, what):
        self.found.append(f"{rule} {os.path.basename(self.path)}:{line}: {what}")

    def all(self):
        self.signs()
        self.tokens()
        self.top()
        self.imports()
        for node in ast.walk(self.tree):
            self.node(node)
        return self.found

    def signs(self):
        lines = self.text.split("\n")
        if len(lines) > 399:
            self.say("L10", len(lines), "too many lines")
        for number, line in enumerate(lines, 1):
            if len(line) > 120:
                self.say("L10", number, "too long")
            if not all(" " <= sign <= "~" for sign in line):
                self.say("L14", number, "a sign beyond ASCII, or a tab")

    def tokens(self):
        for token in tokenize.generate_tokens(io.StringIO(self.text).readline):
            if token.type == tokenize.STRING and not token.line.lstrip().startswith('"""'):
                if re.search(r"\\[^nt\\\"']", token.string) or "%" in token.string:
                    self.say("L27", token.start[0], "an escape or a %")
                if any(re.search(r"\b" + word + r"\b", token.string) for word in WORDS):
                    self.say("L17", token.start[0], "a word in a string")
            if token.type == tokenize.NAME and token.string != "type":
                self.name(token.string, token.start[0])

    def name(self, name, line):
        if name in NEVER or name in WORDS:
            self.say("L17", line, name)
        if name.startswith("__") and name not in SPECIAL:
            self.say("L8", line, name)
        if re.match(r"_(wall|pe_|dcw_|enum_|cm_|twin_re_|lay_|law_|stub_|sre|WallAttr)", name):
            self.say("L12", line, name)

    def top(self):
        behind_imports = False
        for at, node in enumerate(self.tree.body):
            if not isinstance(node, PLAIN):
                self.say("L3", node.lineno, "this does not stand at module level")
            if isinstance(node, ast.Expr) and at > 0:
                self.say("L3", node.lineno, "an expression at module level")
            if isinstance(node, ast.ImportFrom) and behind_imports:
                self.say("L2", node.lineno, "an import behind other things")
            if not isinstance(node, (ast.ImportFrom, ast.Expr)):
                behind_imports = True

    def imports(self):
        for node in ast.walk(self.tree):
            if isinstance(node, ast.ImportFrom):
                if node.module in LIBRARY:
                    wrong = [alias.name for alias in node.names if alias.name not in LIBRARY[node.module]]
                else:
                    there = self.own.get(node.module, set())
                    wrong = [alias.name for alias in node.names if alias.name not in there]
                if wrong or node.level or any(alias.asname for alias in node.names):
                    self.say("L2", node.lineno, f"an import of {wrong}")

    def node(self, node):
        if isinstance(node, BARRED):
            self.say("L6", node.lineno, type(node).__name__)
        for kind, look in ((ast.FunctionDef, self.function), (ast.ClassDef, self.shape), (ast.Call, self.call),
                           (ast.Constant, self.constant), (ast.BinOp, self.sign), (ast.AugAssign, self.grown),
                           (ast.Compare, self.compared), (ast.JoinedStr, self.filled), (ast.Attribute, self.off),
                           (ast.For, self.loop), (ast.ExceptHandler, self.handler), (ast.Raise, self.raised),
                           (ast.Name, self.kind_of), (ast.Try, self.end), (ast.With, self.block)):
            if isinstance(node, kind):
                look(node)

    def function(self, node):
        if node.end_lineno - node.lineno + 1 > 40:
            self.say("L10", node.lineno, "a long function")
        given = node.args
        places = given.posonlyargs + given.args + given.kwonlyargs + [given.vararg, given.kwarg]
        bound = {place.arg for place in places if place is not None}
        inside = list(ast.walk(node))
        bound |= {place.arg for part in inside if isinstance(part, ast.Lambda) for place in part.args.args}
        bound |= {part.id for part in inside if isinstance(part, ast.Name) and isinstance(part.ctx, ast.Store)}
        shared = {name for top in self.tree.body if isinstance(top, (ast.ImportFrom, ast.ClassDef))
                  for name in ([alias.name for alias in top.names] if isinstance(top, ast.ImportFrom) else [top.name])}
        in_class = isinstance(self.parents[node], ast.ClassDef)
        for name in bound | (set() if in_class else {node.name}):
            if hasattr(builtins, name):
                self.say("L15", node.lineno, f"{name} is a builtin")
            if name in shared and name != node.name:
                self.say("L15", node.lineno, f"{name} is a class or an import")
        known = bound | shared | self.own_tops() | {part.name for part in inside if isinstance(part, ast.FunctionDef)}
        for part in inside:
            if isinstance(part, ast.Name) and isinstance(part.ctx, ast.Load):
                if part.id not in known and part.id not in BUILTINS and part.id != "type":
                    self.say("L8", part.lineno, f"{part.id} is not allowed")
                if part.id == "_":
                    self.say("L12", part.lineno, "_ is read")

    def own_tops(self):
        return {name for name in self.own["everyload." + os.path.basename(self.path)[:-3]]}

    def shape(self, node):
        for part in node.body:
            if isinstance(part, ast.FunctionDef) and part.name == "__exit__" and not self.are_simple(part.body):
                self.say("L6", part.lineno, "more than assignments in an __exit__")
            if isinstance(part, ast.FunctionDef) and part.name in TAKEN - SPECIAL:
                self.say("L26", part.lineno, f"{part.name} is a method of a builtin value")
            if isinstance(part, ast.FunctionDef) and part.name.startswith("__") and part.name not in SPECIAL:
                self.say("L5", part.lineno, part.name)
        if node.decorator_list:
            self.say("L5", node.lineno, "a decorator")

    def call(self, node):
        for value in node.args:
            if isinstance(value, ast.Starred) and not isinstance(value.value, (ast.Name, ast.Attribute)):
                self.say("L7", node.lineno, "a star before more than a name")
        name = node.func.id if isinstance(node.func, ast.Name) else None
        # Of two arguments of `min` and `max`, one is enough.
        enough = any if name in ("min", "max") and len(node.args) > 1 else all
        if name in ("sorted", "min", "max") and not enough(self.is_plain(value) for value in node.args):
            self.say("L5", node.lineno, f"{name} of what is not plainly numbers or strings")
        if name == "set":
            above = self.parents[node]
            if not (isinstance(above, ast.Call) and getattr(above.func, "id", "") in ("len", "sorted")):
                self.say("L24", node.lineno, "a set")
        view = isinstance(node.func, ast.Attribute) and node.func.attr in VIEWS
        if name in AT_ONCE or view:
            self.at_once(node)
        if isinstance(node.func, ast.Attribute) and isinstance(node.func.value, ast.Constant):
            if node.func.attr != "join":
                self.say("L25", node.lineno, "a method of a literal")

    def at_once(self, node):
        above = self.parents[node]
        if isinstance(above, (ast.For, ast.comprehension)) and above.iter is node:
            return
        if isinstance(above, ast.Call) and getattr(above.func, "id", "") in TAKERS and above.args[0] is node:
            return
        self.say("L23", node.lineno, "not iterated at once")

    def is_plain(self, node):
        if isinstance(node, ast.ListComp):
            return self.is_plain(node.elt)
        if isinstance(node, ast.Call):
            return getattr(node.func, "id", "") in ("int", "str", "len", "ord", "repr", "range")
        return isinstance(node, (ast.Constant, ast.JoinedStr))

    def constant(self, node):
        if isinstance(node.value, (float, complex, bytes)):
            self.say("L7", node.lineno, "a float, or bytes")

    def sign(self, node):
        if isinstance(node.op, ast.Div):
            self.say("L7", node.lineno, "a /")
        if isinstance(node.op, ast.Pow):
            small = isinstance(node.right, ast.Constant) and 0 <= node.right.value <= 64
            rest = isinstance(node.right, ast.BinOp) and isinstance(node.right.op, ast.Mod)
            if not small and not (rest and node.right.right.value <= 65):
                self.say("L27", node.lineno, "an exponent")

    def grown(self, node):
        if not (isinstance(node.op, ast.Add) and isinstance(node.value, ast.Constant)):
            self.say("L5", node.lineno, "more than += of a literal")

    def compared(self, node):
        for op, value in zip(node.ops, node.comparators):
            if isinstance(op, (ast.Is, ast.IsNot)) and not isinstance(value, ast.Constant):
                self.say("L20", node.lineno, "is")

    def filled(self, node):
        for value in node.values:
            if isinstance(value, ast.FormattedValue):
                for part in ast.walk(value.value):
                    if isinstance(part, ast.Constant) and isinstance(part.value, str):
                        self.say("L27", node.lineno, "a string in an f-string")

    def off(self, node):
        methods = {name for names in self.own["methods"].values() for name in names}
        if node.attr not in METHODS | methods | self.own["attributes"]:
            self.say("L25", node.lineno, f"the attribute {node.attr}")

    def loop(self, node):
        over = {part.id for part in ast.walk(node.iter) if isinstance(part, ast.Name)}
        for part in [part for row in node.body for part in ast.walk(row)]:
            if isinstance(part, ast.Call) and isinstance(part.func, ast.Attribute):
                if part.func.attr in ("append", "pop", "extend", "insert", "remove", "clear", "update", "setdefault"):
                    if getattr(part.func.value, "id", "") in over:
                        self.say("L23", part.lineno, "a loop changes what it goes over")
            if isinstance(part, ast.Subscript) and isinstance(part.ctx, ast.Store):
                if getattr(part.value, "id", "") in over:
                    self.say("L23", part.lineno, "a loop changes what it goes over")

    def kind_of(self, node):
        """`type` stands in a comparison of a call with the name of a class, and nowhere else."""
        if node.id == "type":
            call = self.parents[node]
            above = self.parents[call]
            beside = above.comparators[0] if isinstance(above, ast.Compare) and above.left is call else None
            if not (isinstance(call, ast.Call) and call.func is node and isinstance(beside, ast.Name)):
                self.say("L8", node.lineno, "type")

    def is_simple(self, node):
        if isinstance(node, ast.Attribute):
            return self.is_simple(node.value)
        return isinstance(node, (ast.Name, ast.Constant))

    def are_simple(self, rows):
        """Whether these are nothing but assignments of names and attributes to such."""
        for row in rows:
            if not isinstance(row, ast.Assign) or not all(self.is_simple(node) for node in (*row.targets, row.value)):
                return False
        return True

    def end(self, node):
        if not self.are_simple(node.finalbody):
            self.say("L6", node.finalbody[0].lineno, "more than assignments in a finally")
        inside = {part for row in node.body for part in ast.walk(row)}
        if any(isinstance(part, (ast.Yield, ast.YieldFrom)) for part in inside):
            self.say("L23", node.lineno, "a yield under a try")
        own = {name for handler in node.handlers for part in ast.walk(handler.type) if isinstance(part, ast.Name)
               for name in [part.id]}
        if own & set(dir(builtins)) - {"KeyError", "ZeroDivisionError"}:
            self.say("L19", node.lineno, f"{own} are caught")

    def block(self, node):
        for item in node.items:
            if not isinstance(item.context_expr, (ast.Call, ast.Name, ast.Attribute)):
                self.say("L6", node.lineno, "a with over something else")

    def handler(self, node):
        if node.type is None:
            self.say("L19", node.lineno, "a bare except")

    def raised(self, node):
        if not (isinstance(node.exc, ast.Call) and isinstance(node.exc.func, ast.Name)):
            self.say("L19", node.lineno, "an error that is not made on the spot")


def own_names():
    """What each module binds, and the methods and attributes of all classes."""
    own = {"methods": {}, "attributes": set(), "properties": set(), "plain": set()}
    for path in files():
        with open(path, encoding="utf-8") as file:
            tree = ast.parse(file.read())
        tops = set()
        for node in tree.body:
            if isinstance(node, (ast.FunctionDef, ast.ClassDef)):
                tops.add(node.name)
            if isinstance(node, ast.Assign):
                tops |= {target.id for target in node.targets}
            if isinstance(node, ast.ClassDef):
                methods = [part for part in node.body if isinstance(part, ast.FunctionDef)]
                own["methods"][node.name] = {part.name for part in methods}
                for part in methods:
                    words = [word.id for word in part.decorator_list]
                    own["properties" if words == ["property"] else "plain"].add(part.name)
        own["everyload." + os.path.basename(path)[:-3]] = tops
        for node in ast.walk(tree):
            if isinstance(node, ast.Attribute) and isinstance(node.ctx, ast.Store):
                own["attributes"].add(node.attr)
    return own


def circles():
    """Files that import one another, in whatever many steps."""
    leads = {}
    for path in files():
        with open(path, encoding="utf-8") as file:
            tree = ast.parse(file.read())
        name = "everyload." + os.path.basename(path)[:-3]
        leads[name] = {node.module for node in ast.walk(tree) if isinstance(node, ast.ImportFrom)}
    found = []
    for name in leads:
        seen, waiting = set(), list(leads[name])
        while waiting:
            other = waiting.pop()
            if other not in seen:
                seen.add(other)
                waiting.extend(leads.get(other, ()))
        if name in seen:
            found.append(name)
    return found


def findings():
    own = own_names()
    found = [f"L16 {name} imports itself" for name in circles()]
    for name in sorted(own["properties"] & (own["plain"] | own["attributes"])):
        found.append(f"L5 {name} is a property, and a method or an attribute that is assigned")
    for name in sorted(own["plain"] & own["attributes"]):
        found.append(f"L18 {name} is a method and an attribute")
    for path in files():
        if not re.fullmatch(r"[a-z_]+\.py", os.path.basename(path)):
            found.append(f"L1 {path}")
        found.extend(Reader(path, own).all())
    return found
