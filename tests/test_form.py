"""The section "The interface", and those rules of the language that are quickly looked at."""

import ast
import builtins
import pathlib
import re
import unittest

FOLDER = pathlib.Path(__file__).resolve().parent.parent / "calmgroups"

# Of each file that is built: its functions and, by class, the methods with their parameters.
INTERFACE = {
    "groups.py": {
        "is_group": ["value", "n"],
        "Collection": {
            "__init__": ["n", "groups"], "__len__": [], "__eq__": ["other"], "places_of": ["member"],
            "place": ["group"], "with_group": ["group"], "without": ["place"],
        },
    },
    "wishes.py": {
        "Wishes": {
            "__init__": ["collection", "ranks"], "__eq__": ["other"], "__str__": [], "rank": ["member", "place"],
        },
        "is_strict": ["wishes"],
        "plain": ["wishes"],
    },
    "texts.py": {"read_wishes": ["text"]},
    "makers.py": {
        "by_numbers": ["collection", "numbers"], "by_sizes": ["collection", "likes"],
        "by_best": ["collection", "orders"], "by_worst": ["collection", "orders"],
    },
    "lots.py": {
        "is_lot": ["collection", "value"], "lots": ["collection"], "own_place": ["collection", "lot", "member"],
    },
    "calm.py": {
        "leaves": ["wishes", "lot", "place"], "leaves_softly": ["wishes", "lot", "place"],
        "leaving": ["wishes", "lot"], "calm_lots": ["wishes"], "firm_lots": ["wishes"], "better_lot": ["wishes", "lot"],
    },
    "tops.py": {
        "tops": ["wishes"], "wish_ring": ["wishes", "members"], "ring_of_wishes_holds": ["wishes", "members", "value"],
    },
    "lapping.py": {
        "laps_singly": ["collection"], "group_ring": ["collection"], "group_ring_holds": ["collection", "value"],
        "against": ["collection"],
    },
    "trees.py": {
        "is_tree": ["value", "n"], "hangs_together": ["collection", "tree"], "tree_of": ["collection"],
        "heaviest_tree": ["collection"], "shows_no_tree": ["collection", "value"], "tree_lot": ["wishes", "tree", "root"],
    },
    "pairs.py": {
        "is_pairs": ["collection"], "sides": ["collection"], "odd_ring": ["collection"],
        "odd_ring_holds": ["collection", "value"], "against_pairs": ["collection"], "proposed": ["wishes", "side"],
    },
    "divisions.py": {
        "rings_of": ["value"], "division": ["wishes"], "division_holds": ["wishes", "value"], "odd_rings": ["wishes"],
    },
    "shares.py": {
        "is_shares": ["collection", "value"], "shares": ["wishes"], "calm_shares_hold": ["wishes", "value"],
        "lot_of_shares": ["collection", "value"],
    },
    "moves.py": {
        "moves": ["wishes", "lot", "kind"], "rests": ["wishes", "kind"], "heights": ["wishes", "kind"],
        "move_ring": ["wishes", "kind"], "heights_hold": ["wishes", "kind", "value"],
        "move_ring_holds": ["wishes", "kind", "value"], "worth": ["collection", "numbers", "lot"],
    },
    "claims.py": {
        "is_question": ["thing", "value"], "is_claim": ["thing", "value"], "answer_of": ["thing", "question"],
        "question_of": ["thing", "claim"],
    },
    "papers.py": {"paper_of": ["thing", "question"], "claim_holds": ["thing", "claim", "paper"]},
    "desk.py": {
        "Desk": {
            "__init__": ["wishes"], "prefer": ["member", "place", "rank"], "swap": ["member", "one", "other"],
            "bring": ["group", "ranks"], "drop": ["place"], "watch": ["question"], "leave": ["question"], "undo": [],
            "redo": [], "claim": ["question"], "paper": ["question"], "report": [],
        },
        "same_state": ["one", "other"],
    },
}

# What may be imported from outside of the package.
LIBRARY = {"math": {"gcd"}, "itertools": {"permutations"}}

UNUSED = {
    "mro", "elements", "open", "input", "law", "version_info", "with_traceback", "add_note", "register", "compile",
    "copyright", "credits", "delattr", "dir", "eval", "exec", "exit", "gc", "globals", "help", "id", "importlib",
    "license", "locals", "os", "quit", "vars", "enum", "typing", "dataclass", "namedtuple",
}
DOUBLE = {"__init__", "__eq__", "__repr__", "__str__", "__len__"}


def sources():
    return {path.name: path.read_text(encoding="utf-8") for path in sorted(FOLDER.glob("*.py"))}


def trees():
    return {name: ast.parse(text) for name, text in sources().items()}


def nodes(kind):
    """Each node of this kind with the name of its file."""
    return [(name, node) for name, tree in trees().items() for node in ast.walk(tree) if isinstance(node, kind)]


def own_names(tree):
    """The names that a module binds, by what it binds them to."""
    names = {}
    for node in tree.body:
        if isinstance(node, (ast.FunctionDef, ast.ClassDef)):
            names[node.name] = node
        if isinstance(node, ast.Assign):
            names[node.targets[0].id] = node
    return names


def parameters(function):
    return [argument.arg for argument in function.args.args]


class Interface(unittest.TestCase):
    def test_each_name_is_defined_in_its_file(self):
        for name, listed in INTERFACE.items():
            found = own_names(trees()[name])
            for word, what in listed.items():
                with self.subTest(word):
                    if isinstance(what, list):
                        self.assertEqual(parameters(found[word]), what)
                    else:
                        methods = {node.name: node for node in found[word].body if isinstance(node, ast.FunctionDef)}
                        self.assertEqual({key: parameters(methods[key])[1:] for key in what}, what)

    def test_no_name_is_bound_in_two_files(self):
        bound = [word for tree in trees().values() for word in own_names(tree) if not word.startswith("_")]
        self.assertEqual(len(bound), len(set(bound)))


class Form(unittest.TestCase):
    def test_files(self):
        for path in FOLDER.iterdir():
            if path.name != "__pycache__":
                self.assertRegex(path.name, r"\A[a-z_][a-z0-9_]*\.py\Z")

    def test_characters_and_sizes(self):
        for name, text in sources().items():
            with self.subTest(name):
                self.assertRegex(text, r"\A[ -~\n]*\Z")
                self.assertLessEqual(len(text.splitlines()), 399)
                self.assertLessEqual(max(len(line) for line in text.splitlines()), 120)
        for name, node in nodes(ast.FunctionDef):
            self.assertLessEqual(node.end_lineno - node.lineno + 1, 40, (name, node.name))
            self.assertEqual(node.decorator_list, [], (name, node.name))

    def test_imports(self):
        for name, node in nodes((ast.Import, ast.ImportFrom)):
            self.assertIsInstance(node, ast.ImportFrom, name)
            self.assertEqual(node.level, 0, name)
            if node.module in LIBRARY:
                self.assertLessEqual({alias.name for alias in node.names}, LIBRARY[node.module], name)
                self.assertEqual([alias.asname for alias in node.names if alias.asname], [], name)
                continue
            self.assertRegex(node.module, r"\Acalmgroups\.[a-z]+\Z", name)
            found = own_names(trees()[node.module.partition(".")[2] + ".py"])
            for alias in node.names:
                self.assertIn(alias.name, found, name)
                self.assertIsNone(alias.asname, name)

    def test_no_circle_of_imports(self):
        ahead = {name: set() for name in trees()}
        for name, node in nodes(ast.ImportFrom):
            ahead[name].add(node.module.partition(".")[2] + ".py")
        while ahead:
            free = {name for name, needs in ahead.items() if not needs & set(ahead)}
            self.assertTrue(free, ahead)
            ahead = {name: needs for name, needs in ahead.items() if name not in free}

    def test_module_level(self):
        for name, tree in trees().items():
            self.assertIsNotNone(ast.get_docstring(tree), name)
            for node in tree.body[1:]:
                self.assertIsInstance(node, (ast.ImportFrom, ast.FunctionDef, ast.ClassDef, ast.Assign), name)

    def test_plain_expressions(self):
        for name, node in nodes((ast.GeneratorExp, ast.Div, ast.Global, ast.AsyncFunctionDef, ast.Try)):
            self.fail((name, node.lineno if hasattr(node, "lineno") else node))
        for name, node in nodes(ast.Constant):
            self.assertNotIsInstance(node.value, (float, complex), name)
            if isinstance(node.value, str):
                self.assertNotIn("%", node.value, name)

    def test_names(self):
        for name, node in nodes((ast.FunctionDef, ast.ClassDef, ast.arg, ast.Name, ast.Attribute)):
            word = getattr(node, "name", None) or getattr(node, "arg", None) or getattr(node, "id", None) or node.attr
            self.assertNotIn(word, UNUSED, name)
            self.assertTrue(word in DOUBLE or re.fullmatch(r"_?[A-Za-z][A-Za-z0-9_]*|_", word), (name, word))
        for name, node in nodes((ast.FunctionDef, ast.ClassDef)):
            self.assertFalse(hasattr(builtins, node.name) and node.name not in DOUBLE, (name, node.name))
        for name, node in nodes(ast.arg):
            self.assertFalse(hasattr(builtins, node.arg), (name, node.arg))
        for name, node in nodes(ast.Name):
            if isinstance(node.ctx, ast.Store):
                self.assertFalse(hasattr(builtins, node.id), (name, node.id))

    def test_no_name_of_a_file_is_bound_again_within(self):
        for name, tree in trees().items():
            bound = set(own_names(tree))
            for node in ast.walk(tree):
                if isinstance(node, ast.ImportFrom):
                    bound |= {alias.name for alias in node.names}
            for node in ast.walk(tree):
                if isinstance(node, ast.arg):
                    self.assertNotIn(node.arg, bound, name)
                if isinstance(node, ast.FunctionDef):
                    for inner in ast.walk(node):
                        if isinstance(inner, ast.Name) and isinstance(inner.ctx, ast.Store):
                            self.assertNotIn(inner.id, bound, name)

    def test_sets_stand_straight_in_sorted_or_len(self):
        told = 0
        for name, tree in trees().items():
            held = [node.args[0] for node in ast.walk(tree)
                    if isinstance(node, ast.Call) and isinstance(node.func, ast.Name)
                    and node.func.id in ("sorted", "len") and not node.keywords]
            for node in ast.walk(tree):
                if is_set(node):
                    self.assertTrue(any(node is one for one in held), (name, node.lineno))
                    told += 1
        self.assertGreater(told, 0)


def is_set(node):
    """Whether a node makes a set."""
    if isinstance(node, ast.Call):
        return isinstance(node.func, ast.Name) and node.func.id in ("set", "frozenset")
    return isinstance(node, (ast.Set, ast.SetComp))


if __name__ == "__main__":
    unittest.main()
