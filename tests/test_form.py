"""The form of the package: the rules of LANGUAGE.md that a test can see, and the names of the interface."""

import ast
import builtins
import importlib
import inspect
import pathlib
import unittest

ROOT = pathlib.Path(__file__).resolve().parent.parent
PACKAGE = ROOT / "drowsefolk"

INTERFACE = {
    "names": {"is_name": "(text)", "is_number": "(value, low, high)"},
    "webs": {
        "Web": "(folk, watches=())", "with_need": "(web, name, need)",
        "with_watch": "(web, watcher, watched, weight)", "with_folk": "(web, name, need)",
        "without_folk": "(web, name)", "sub_web": "(web, names)", "world_of": "(web, awake)",
        "sleepers": "(web, awake)", "differing": "(web, awake, target)", "world_key": "(web, awake)",
        "all_worlds": "(web)",
    },
    "texts": {
        "web_text": "(web)", "read_web": "(text)", "world_text": "(web, awake)", "read_world": "(web, text)",
    },
    "renaming": {
        "Renaming": "(pairs)", "renamed": "(web, renaming)", "renamed_world": "(web, awake, renaming)",
    },
    "deeds": {
        "weight_on": "(web, awake, name)", "missing": "(web, awake, name)", "may_turn": "(web, awake, name)",
        "turners": "(web, awake)", "turn": "(web, awake, name)", "replay": "(web, awake, deeds)",
        "walk": "(web, awake, deeds)",
    },
    "histories": {
        "History": "(web, awake, deeds)", "reduced": "(history)", "shortened": "(history)",
        "is_history": "(web, awake, target, paper)",
    },
    "closing": {
        "closure": "(web, awake, *, within=None)", "waking_order": "(web, awake, *, within=None)",
        "waking_rounds": "(web, awake, *, within=None)",
        "is_waking_order": "(web, awake, target, paper, *, within=None)",
    },
    "nests": {
        "outside_weight": "(web, names, name)", "is_nest": "(web, paper)", "is_nest_of": "(web, awake, paper)",
        "greatest_nest": "(web, awake)", "avoids": "(web, awake, names)", "nest_union": "(web, one, other)",
        "all_nests": "(web)", "prime_nests": "(web)", "closure_paper": "(web, awake)",
        "is_closure_paper": "(web, awake, target, paper)",
    },
    "reach": {
        "same_class": "(web, awake, target)", "path": "(web, awake, target)", "parting_nest": "(web, awake, target)",
        "is_parting_nest": "(web, awake, target, paper)", "answer": "(web, awake, target)",
        "is_answer": "(web, awake, target, paper)", "guarded_class": "(web, awake, target, names)",
        "guarded_path": "(web, awake, target, names)", "is_guard_nest": "(web, names, paper)",
        "guard_answer": "(web, awake, target, names)",
        "is_guard_answer": "(web, awake, target, names, paper)", "needed": "(web, awake, target)",
        "must_turn": "(web, awake, target)",
    },
    "fewest": {
        "helpers": "(web, awake, target)", "least_helpers": "(web, awake, target)", "fewest": "(web, awake, target)",
        "fewest_history": "(web, awake, target)", "is_helpers": "(web, awake, target, paper)",
        "distance_table": "(web, awake)", "is_bound_table": "(web, awake, target, paper, bound)",
    },
    "lengths": {
        "can_last": "(web, awake, target, length)", "history_of_length": "(web, awake, target, length)",
        "count_fewest": "(web, awake, target)", "fewest_histories": "(web, awake, target, *, most=20)",
        "count_lasting": "(web, awake, target, length)", "farthest": "(web, awake)", "diameter": "(web, awake)",
    },
    "pictures": {
        "fits": "(web, awake, told_awake, told_asleep)", "greatest_fit": "(web, awake, told_awake, told_asleep)",
        "fit_paper": "(web, awake, told_awake, told_asleep)",
        "is_fit_paper": "(web, awake, told_awake, told_asleep, paper)",
        "sure": "(web, awake, told_awake, told_asleep)", "list_fits": "(web, awake, told_awake, told_asleep)",
        "count_fits": "(web, awake, told_awake, told_asleep)", "least_fits": "(web, awake, told_awake, told_asleep)",
    },
    "classes": {
        "members": "(web, awake)", "class_size": "(web, awake)", "rank": "(web, awake)",
        "member_at": "(web, awake, place)", "least_member": "(web, awake)", "thin_members": "(web, awake)",
        "classes": "(web)", "class_table": "(web)", "class_place": "(web, awake)",
        "class_join": "(web, awake, target)", "class_meet": "(web, awake, target)", "is_thin": "(web, awake)",
        "thinned": "(web, awake)", "thin_paper": "(web, awake)", "is_thin_paper": "(web, awake, paper)",
        "least_wakers": "(web, *, target=None)",
    },
    "sameness": {
        "find_renaming": "(one, other)", "is_renaming": "(one, other, paper)", "canonical_web": "(web)",
        "canonical_renaming": "(web)", "count_selfs": "(web)", "first_difference": "(one, other)",
    },
    "lightest": {
        "keepers": "(web, name)", "same_deeds": "(one, other)", "deed_difference": "(one, other)",
        "same_classes": "(one, other)", "class_difference": "(one, other)", "is_finer": "(one, other)",
        "lightest": "(web)",
    },
    "pieces": {
        "Piece": "(web, border, *, awake=())", "settle": "(piece, told)", "table": "(piece)",
        "struck": "(piece, name)", "smaller": "(piece)",
    },
    "gluing": {
        "Surround": "(border, folk, watches)", "glue": "(piece, surround)",
        "outer_closure": "(piece, surround, awake)", "neighbours": "(web, names)",
        "split_web": "(web, names, border, *, awake=())", "closure_by_table": "(rows, surround, awake)",
    },
    "telling": {
        "alike_in_all": "(one, other)", "wakes_no_more": "(one, other)", "telling": "(one, other)",
        "shrunk_web": "(web, names, border)", "is_telling": "(one, other, surround, awake)",
        "join_pieces": "(one, other)", "join_tables": "(one_rows, other_rows, needs)",
    },
    "diaries": {
        "Diary": "(web, awake, sightings)", "layers": "(diary)", "first_misfit": "(diary)", "diary_fits": "(diary)",
        "possible": "(diary)", "certain": "(diary)", "find_run": "(diary)", "shortest_run": "(diary)",
        "least_deeds": "(diary)", "is_run": "(diary, paper)", "is_layer_paper": "(diary, place, paper)",
        "fitting_starts": "(web, sightings)",
    },
    "repairs": {
        "blanked": "(diary, places)", "thin_wrong": "(diary, *, most=2)", "least_wrong": "(diary, *, most=2)",
        "is_thin_wrong": "(diary, paper)", "lowered": "(web, changes)", "laid": "(web, changes)",
        "least_lowerings": "(web, awake, target, *, most=3)", "is_lowering": "(web, awake, target, paper)",
        "least_layings": "(web, awake, target, *, most=2)", "without_watches": "(web, pairs)",
        "least_cuts": "(web, awake, target, *, most=2)",
    },
    "orders": {"Order": "(text)"},
    "running": {
        "run_order": "(web, awake, order, *, ticks=90)", "order_history": "(web, awake, order, *, ticks=90)",
        "order_of": "(history)", "parting_world": "(web, first, second, *, ticks=90)",
        "effects": "(web, order, *, ticks=90)", "failing_worlds": "(web, order, *, ticks=90)",
    },
    "claims": {
        "verdict": "(web, claim, paper)", "find_paper": "(web, claim)", "claim_names": "(claim)",
    },
    "book": {"Book": "(web, awake)"},
    "audit": {
        "audit": "(web, awake, rows)", "replay_book": "(web, awake, rows)", "compare_books": "(one, other)",
        "journal": "(book)", "read_journal": "(text)", "same_future": "(one, other)", "closures": "(book)",
    },
}
METHODS = {
    ("webs", "Web"): [
        "names", "folk", "watches", "need", "weight", "watchers", "watched_by", "__init__", "__eq__", "__contains__",
        "__iter__",
    ],
    ("renaming", "Renaming"): ["pairs", "same", "__init__", "__call__", "__mul__", "__neg__", "__eq__"],
    ("histories", "History"): [
        "web", "first_world", "last_world", "deeds", "worlds", "at", "turned", "cut", "__init__", "__add__",
        "__neg__", "__len__", "__eq__",
    ],
    ("pieces", "Piece"): ["web", "border", "inner", "awake", "__init__", "__eq__"],
    ("gluing", "Surround"): ["border", "folk", "watches", "__init__", "__eq__"],
    ("diaries", "Diary"): ["web", "first_world", "sightings", "__init__", "__len__", "__eq__"],
    ("orders", "Order"): ["text", "names", "depth", "__init__", "__add__", "__len__", "__eq__"],
    ("book", "Book"): [
        "web", "world", "first_web", "first_world", "rows", "turn", "set_need", "set_watch", "come", "go", "claim",
        "do", "run_all", "undo", "at", "claims", "standing", "can_come", "fewest_to", "twin", "__init__", "__len__",
        "__eq__",
    ],
}
# The parameters of the methods of the interface, without the object itself.
METHOD_PARAMETERS = {
    ("webs", "Web"): {"need": "(name)", "weight": "(watcher, watched)", "watchers": "(name)", "watched_by": "(name)"},
    ("renaming", "Renaming"): {"same": "(names)", "__call__": "(name)"},
    ("histories", "History"): {"worlds": "()", "at": "(place)", "turned": "(name)", "cut": "(low, high)"},
    ("book", "Book"): {
        "turn": "(name)", "set_need": "(name, need)", "set_watch": "(watcher, watched, weight)",
        "come": "(name, need)", "go": "(name)", "claim": "(claim, paper)", "do": "(order, *, ticks=90)",
        "run_all": "(rows)", "undo": "()", "at": "(place)", "claims": "()", "standing": "()", "can_come": "(target)",
        "fewest_to": "(target)", "twin": "()",
    },
}

BUILTINS = (
    "len range enumerate zip min max sum abs sorted reversed int str bool list tuple dict isinstance ord repr any all "
    "divmod iter ValueError"
).split()
DECORATORS = ("property", "staticmethod", "classmethod")
VALUE_METHODS = (
    "append clear copy count endswith extend find get index insert isalnum isalpha isdigit islower isspace isupper "
    "items join keys ljust lower lstrip partition pop remove replace reverse rfind rjust rpartition rsplit rstrip "
    "setdefault split splitlines startswith strip update upper values zfill bit_length"
).split()
BARRED = ("register", "mro", "elements", "open", "input", "law", "version_info", "with_traceback", "add_note")
BARRED_WORDS = ("type", "typing", "enum", "Enum", "Flag", "Generic", "Protocol", "ABC", "namedtuple", "NamedTuple")
STATEMENTS = (
    ast.Assign, ast.AugAssign, ast.If, ast.While, ast.For, ast.Return, ast.Break, ast.Continue, ast.Pass, ast.Raise,
    ast.Expr, ast.FunctionDef, ast.ClassDef, ast.ImportFrom, ast.Try,
)


def files():
    """The files of the package."""
    return sorted(PACKAGE.rglob("*.py"))


def tree_of(path):
    """The syntax tree of a file."""
    return ast.parse(path.read_text(encoding="utf-8"))


def walk_all(kind):
    """Each part of this kind in the package, with the name of its file."""
    return [(path.name, node) for path in files() for node in ast.walk(tree_of(path)) if isinstance(node, kind)]


def bound_names(tree):
    """The names that are bound at module level."""
    found = []
    for node in tree.body:
        if isinstance(node, ast.ImportFrom):
            found.extend([alias.asname or alias.name for alias in node.names])
        elif isinstance(node, (ast.FunctionDef, ast.ClassDef)):
            found.append(node.name)
        elif isinstance(node, ast.Assign):
            found.extend([target.id for target in node.targets])
    return found


def docstrings(tree):
    """The texts that stand as docstrings."""
    found = []
    for node in ast.walk(tree):
        if isinstance(node, (ast.Module, ast.ClassDef, ast.FunctionDef)) and ast.get_docstring(node) is not None:
            found.append(node.body[0].value)
    return found


CHANGING = ("append", "clear", "extend", "insert", "pop", "remove", "reverse", "setdefault", "sort", "update", "add",
            "discard")
LIVE_VIEWS = ("enumerate", "zip", "reversed")


def choices(node):
    """The parts of which this expression is one: both sides of a choice, else itself."""
    if isinstance(node, ast.IfExp):
        return choices(node.body) + choices(node.orelse)
    if isinstance(node, ast.BoolOp):
        return [part for value in node.values for part in choices(value)]
    return [node]


def holders(node):
    """The texts of the names, attributes and items that this expression may be, without making a copy."""
    return [
        ast.unparse(part) for part in choices(node) if isinstance(part, (ast.Name, ast.Attribute, ast.Subscript))
    ]


def walked(node):
    """The texts of what a loop over this expression goes over."""
    if isinstance(node, ast.Call) and isinstance(node.func, ast.Name) and node.func.id in LIVE_VIEWS:
        return [text for part in node.args for text in walked(part)]
    if isinstance(node, ast.Call) and isinstance(node.func, ast.Attribute):
        return holders(node.func.value) if node.func.attr in ("items", "keys", "values") else []
    return holders(node)


def changed(node):
    """The texts of what is changed anywhere in this part of a file."""
    found = []
    for part in ast.walk(node):
        if isinstance(part, ast.Call) and isinstance(part.func, ast.Attribute) and part.func.attr in CHANGING:
            found.extend(holders(part.func.value))
        if isinstance(part, ast.Subscript) and isinstance(part.ctx, (ast.Store, ast.Del)):
            found.extend(holders(part.value))
        if isinstance(part, ast.AugAssign):
            found.extend(holders(part.target))
    return found


def one_thing(function):
    """For each text the texts that may mean the same list, as an assignment somewhere in the function gives it both."""
    groups = {}
    for node in ast.walk(function):
        if isinstance(node, ast.Assign):
            texts = holders(node.value) + [text for target in node.targets for text in holders(target)]
            joined = {name for text in texts for name in groups.get(text, {text})}
            groups.update({name: joined for name in joined})
    return groups


def loops_that_change_what_they_walk(tree):
    """The lines of the loops and comprehensions that change what they go over, under this or another name (L23)."""
    found = []
    for function in [node for node in ast.walk(tree) if isinstance(node, ast.FunctionDef)]:
        groups = one_thing(function)
        for node in ast.walk(function):
            if isinstance(node, ast.For):
                heads, parts = [node.iter], node.body
            elif isinstance(node, (ast.ListComp, ast.DictComp, ast.SetComp, ast.GeneratorExp)):
                heads, parts = [part.iter for part in node.generators], [node]
            else:
                continue
            names = {name for head in heads for text in walked(head) for name in groups.get(text, {text})}
            if names & {text for part in parts for text in changed(part)}:
                found.append(node.lineno)
    return found


class Files(unittest.TestCase):
    def test_nothing_but_python_files(self):
        for path in PACKAGE.rglob("*"):
            if "__pycache__" in path.parts:
                continue
            self.assertTrue(path.suffix == ".py" and path.stem == path.stem.lower(), path)
        self.assertTrue((PACKAGE / "__init__.py").exists())

    def test_signs_and_sizes(self):
        for path in files():
            text = path.read_text(encoding="utf-8")
            lines = text.split("\n")
            self.assertTrue(all(sign == "\n" or " " <= sign <= "~" for sign in text), path)
            self.assertLessEqual(len(lines) - 1, 399, path)
            self.assertLessEqual(max(len(line) for line in lines), 120, path)

    def test_functions_have_at_most_forty_lines(self):
        for name, node in walk_all(ast.FunctionDef):
            self.assertLessEqual(node.end_lineno - node.lineno + 1, 40, (name, node.name))

    def test_all_has_a_docstring(self):
        for name, node in walk_all((ast.Module, ast.ClassDef)):
            self.assertTrue(ast.get_docstring(node), name)
        for name, node in walk_all(ast.FunctionDef):
            if not node.name.startswith("__"):
                self.assertTrue(ast.get_docstring(node), (name, node.name))


class Imports(unittest.TestCase):
    def test_from_the_file_that_defines_the_name(self):
        for path in files():
            for node in ast.walk(tree_of(path)):
                self.assertNotIsInstance(node, ast.Import, path)
                if isinstance(node, ast.ImportFrom):
                    self.assertEqual((node.level, node.module.split(".")[0]), (0, "drowsefolk"), path)
                    source = tree_of(PACKAGE / (node.module.split(".")[1] + ".py"))
                    own = [name for part in source.body if not isinstance(part, ast.ImportFrom)
                           for name in bound_names(ast.Module([part], []))]
                    for alias in node.names:
                        self.assertIn(alias.name, own, path)
                        self.assertIsNone(alias.asname, path)

    def test_no_circles(self):
        needs = {
            path.stem: [node.module.split(".")[1] for node in tree_of(path).body if isinstance(node, ast.ImportFrom)]
            for path in files()
        }
        done = []
        while len(done) < len(needs):
            ready = [name for name in needs if name not in done and all(one in done for one in needs[name])]
            self.assertTrue(ready, "files import from each other in a circle")
            done.extend(ready)

    def test_all_imports_are_used(self):
        for path in files():
            tree = tree_of(path)
            used = {node.id for node in ast.walk(tree) if isinstance(node, ast.Name)}
            for node in tree.body:
                if isinstance(node, ast.ImportFrom):
                    self.assertLessEqual({alias.name for alias in node.names}, used, path)


class Code(unittest.TestCase):
    def test_module_level(self):
        for path in files():
            tree = tree_of(path)
            names = bound_names(tree)
            self.assertEqual(len(names), len(set(names)), path)
            for node in tree.body:
                if isinstance(node, ast.Assign):
                    ast.literal_eval(node.value)
                elif isinstance(node, ast.Expr):
                    self.assertIsInstance(node.value, ast.Constant, path)
                else:
                    self.assertIsInstance(node, (ast.ImportFrom, ast.FunctionDef, ast.ClassDef), path)

    def test_statements(self):
        for name, node in walk_all(ast.stmt):
            self.assertIsInstance(node, STATEMENTS, (name, node.lineno))

    def test_expressions(self):
        # Not all of these are barred by the rules, but the package does without them.
        left_out = (ast.Set, ast.SetComp, ast.GeneratorExp, ast.Div, ast.MatMult, ast.Await, ast.NamedExpr, ast.Pow)
        self.assertEqual(walk_all(left_out), [])

    def test_strings_and_numbers(self):
        for path in files():
            tree = tree_of(path)
            texts = [node.value for node in docstrings(tree)]
            for node in ast.walk(tree):
                if not isinstance(node, ast.Constant):
                    continue
                self.assertNotIsInstance(node.value, (float, complex, bytes), path)
                if isinstance(node.value, str):
                    self.assertNotIn("%", node.value, path)
                    self.assertFalse(node.value.endswith(("._", ".__")), path)
                    self.assertFalse(node.value.startswith("__"), path)
                    if node.value not in texts:
                        self.assertFalse(set(node.value.split()) & set(BARRED_WORDS), path)

    def test_decorators(self):
        for name, node in walk_all((ast.FunctionDef, ast.ClassDef)):
            for decorator in node.decorator_list:
                self.assertIsInstance(decorator, ast.Name, name)
                self.assertIn(decorator.id, DECORATORS, name)

    def test_is_only_with_none_and_bools(self):
        for name, node in walk_all(ast.Compare):
            for operator, right in zip(node.ops, node.comparators):
                if isinstance(operator, (ast.Is, ast.IsNot)):
                    self.assertIsInstance(right, ast.Constant, (name, node.lineno))

    def test_builtins(self):
        all_builtins = vars(builtins)
        for path in files():
            for node in ast.walk(tree_of(path)):
                if isinstance(node, ast.Name) and node.id in all_builtins:
                    self.assertIsInstance(node.ctx, ast.Load, (path, node.lineno))
                    self.assertIn(node.id, BUILTINS + list(DECORATORS), (path, node.lineno))
                if isinstance(node, ast.arg):
                    self.assertNotIn(node.arg, all_builtins, (path, node.lineno))
                if isinstance(node, (ast.FunctionDef, ast.ClassDef)):
                    self.assertNotIn(node.name, all_builtins, (path, node.lineno))

    def test_plain_names(self):
        for path in files():
            for node in ast.walk(tree_of(path)):
                for name in (getattr(node, "id", None), getattr(node, "arg", None), getattr(node, "attr", None),
                             getattr(node, "name", None)):
                    if isinstance(name, str):
                        self.assertNotIn(name, BARRED, path)
                        if name == "_":
                            self.assertIsInstance(node.ctx, ast.Store, path)
                        if name.startswith("__"):
                            self.assertIsInstance(node, ast.FunctionDef, path)

    def test_no_local_has_the_name_of_an_import_or_class(self):
        for path in files():
            tree = tree_of(path)
            taken = [name for part in tree.body if isinstance(part, (ast.ImportFrom, ast.ClassDef))
                     for name in bound_names(ast.Module([part], []))]
            for node in ast.walk(tree):
                if isinstance(node, ast.Name) and isinstance(node.ctx, ast.Store):
                    self.assertNotIn(node.id, taken, (path, node.lineno))
                if isinstance(node, ast.arg):
                    self.assertNotIn(node.arg, taken, (path, node.lineno))

    def test_methods_called(self):
        own = {node.name for _, node in walk_all(ast.FunctionDef)}
        for name, node in walk_all(ast.Call):
            if isinstance(node.func, ast.Attribute):
                self.assertIn(node.func.attr, list(own) + VALUE_METHODS, (name, node.lineno))

    def test_any_and_all_and_the_like_take_lists(self):
        for name, node in walk_all(ast.Call):
            if isinstance(node.func, ast.Name) and node.func.id in ("any", "all", "sum", "sorted"):
                self.assertNotIsInstance(node.args[0], (ast.GeneratorExp, ast.Set), (name, node.lineno))

    def test_no_loop_changes_what_it_walks(self):
        for path in files():
            self.assertEqual(loops_that_change_what_they_walk(tree_of(path)), [], path)

    def test_the_generator_has_a_name_of_its_own(self):
        named = [node.name for _, node in walk_all(ast.FunctionDef)]
        for name, node in walk_all(ast.FunctionDef):
            if any(isinstance(part, (ast.Yield, ast.YieldFrom)) for part in ast.walk(node)):
                self.assertEqual(named.count(node.name), 1, name)


class WalkedAndChanged(unittest.TestCase):
    """The check of L23 itself, on rows that break the rule and on rows that keep it."""

    def finds(self, text, lines):
        body = "".join("    " + row + "\n" for row in text.split("\n"))
        found = loops_that_change_what_they_walk(ast.parse("def made():\n" + body))
        self.assertEqual(found, [line + 1 for line in lines], text)

    def test_by_its_own_name(self):
        self.finds("for x in xs:\n    xs.append(x)", [1])
        self.finds("for k, x in enumerate(xs):\n    xs[k] = x + 1", [1])
        self.finds("for k, x in d.items():\n    if x:\n        del d[k]", [1])
        self.finds("for x, y in zip(xs, ys):\n    ys.pop()\n    return 1", [1])
        self.finds("out = [xs.pop() for x in xs]", [1])
        self.finds("for x in box.rows:\n    box.rows.append(x)", [1])
        self.finds("for x in rows[0]:\n    rows[0].append(x)", [1])
        self.finds("for x in xs if xs else ys:\n    ys.append(x)", [1])
        self.finds("for x in xs or ys:\n    ys += [x]", [1])

    def test_by_another_name(self):
        # The list that is made in the loop becomes the one that the loop goes over.
        rows = "while edge:\n    fresh = []\n    for one in edge:\n        fresh.append(one)\n    edge = "
        self.finds(rows + "fresh", [3])
        self.finds("ys = xs\nfor x in xs:\n    ys.append(x)", [2])
        self.finds("zs = ys\nys = xs\nfor x in zs:\n    xs[0] = x", [3])
        self.finds("rows = box.rows\nfor x in rows:\n    box.rows.append(x)", [2])
        self.finds("box.rows = rows\nfor x in box.rows:\n    rows.append(x)", [2])
        self.finds("ys = xs if xs else zs\nfor x in ys:\n    zs.append(x)", [2])
        self.finds("a = b = []\nc = a\nfor x in c:\n    b.append(x)", [3])

    def test_what_keeps_the_rule(self):
        self.finds("for x in list(xs):\n    xs.append(x)", [])
        self.finds("ys = list(xs)\nfor x in xs:\n    ys.append(x)", [])
        rows = "while edge:\n    fresh = {}\n    for one in edge:\n        fresh[one] = 1\n    edge = "
        self.finds(rows + "list(fresh)", [])
        self.finds("for x in xs:\n    ys.append(x)\nxs.append(1)", [])
        self.finds("for x in xs:\n    total = total + x", [])
        self.finds("for x in xs:\n    rows[x].append(x)", [])


class TheInterface(unittest.TestCase):
    def test_functions_and_classes(self):
        for file_name, rows in INTERFACE.items():
            module = importlib.import_module("drowsefolk." + file_name)
            for name, signature in rows.items():
                value = getattr(module, name)
                self.assertEqual(value.__module__, "drowsefolk." + file_name, name)
                self.assertEqual(str(inspect.signature(value)), signature, name)

    def test_methods_stand_in_the_class_itself(self):
        for (file_name, class_name), methods in METHODS.items():
            value = getattr(importlib.import_module("drowsefolk." + file_name), class_name)
            for name in methods:
                self.assertIn(name, vars(value), (class_name, name))

    def test_parameters_of_methods(self):
        for (file_name, class_name), methods in METHOD_PARAMETERS.items():
            value = getattr(importlib.import_module("drowsefolk." + file_name), class_name)
            for name, parameters in methods.items():
                told = inspect.signature(getattr(value, name)).parameters
                kept = [part for part in told.values() if part.name != "self"]
                self.assertEqual(str(inspect.Signature(kept)), parameters, (class_name, name))

    def test_all_files_of_the_interface(self):
        self.assertEqual(len(INTERFACE), 25)
        self.assertEqual(
            sorted([path.stem for path in files()]), sorted(list(INTERFACE) + ["__init__", "checks", "errors"])
        )

    def test_objects_are_not_hashed(self):
        for file_name, class_name in METHODS:
            value = getattr(importlib.import_module("drowsefolk." + file_name), class_name)
            self.assertIsNone(value.__hash__, class_name)


class TheReadme(unittest.TestCase):
    def test_it_tells_how_to_run_the_tests(self):
        text = (ROOT / "README.md").read_text(encoding="utf-8")
        self.assertIn("python3 -m unittest discover -s tests -t .", text)
        self.assertIn(".ci/run", text)
