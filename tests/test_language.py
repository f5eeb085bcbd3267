"""The interface stands where the document lists it, and the files keep what of LANGUAGE.md can be seen plainly."""

import ast
import builtins
import pathlib
import re
import unittest

PACKAGE = pathlib.Path(__file__).resolve().parent.parent / "lateriver"
FILES = sorted(path for path in PACKAGE.rglob("*") if "__pycache__" not in path.parts)

# Of each file its functions, and its classes with their methods, and what each takes.
INTERFACE = {
    "sources.py": {
        "are_sources": ["thing"], "names_of": ["sources"], "fields_of": ["sources", "name"],
        "rows_of": ["sources", "name"], "is_letter": ["sources", "thing"],
    },
    "terms.py": {
        "is_reckoning": ["thing", "columns"], "is_condition": ["thing", "columns"],
        "reckoned": ["A", "columns", "row"], "meets": ["C", "columns", "row"],
        "term_text": ["thing"], "read_reckoning": ["text"], "read_condition": ["text"],
    },
    "questions.py": {
        "Question": {
            "__init__": ["sources", "tree"], "tree": [], "sources": [], "columns": [], "is_flat": [], "terms": [],
            "source_names": [],
        },
        "question_text": ["tree"], "read_question": ["sources", "text"],
    },
    "bags.py": {
        "bag_of": ["pairs"], "added": ["one", "other"], "less": ["one", "other"], "changes_of": ["bag"],
        "summed": ["changes"],
    },
    "plain.py": {"answer_of": ["question", "letters"], "spot_of": ["question", "letters", "where"]},
    "rivers.py": {
        "River": {
            "__init__": ["sources"], "take": ["happening"], "standing": [], "late": [], "mark": ["name"],
            "is_open": ["letter"], "sources": [], "twin": [], "happened": [],
        },
    },
    "deltas.py": {
        "delta": ["question", "letters", "letter", "count"], "touched": ["question", "letters", "letter"],
    },
    "mills.py": {
        "Mill": {
            "__init__": ["sources", "questions"], "take": ["happening"], "answers": [], "river": [], "looked": [],
        },
    },
    "finals.py": {
        "ways_of": ["question", "where"], "settled": ["question", "river", "where"], "open_spots": ["question", "river"],
    },
    "keeping.py": {
        "asked_for": ["question", "river", "letter"], "kept_of": ["question", "river"], "lessened": ["question", "river"],
    },
    "papers.py": {
        "shows": ["question", "letters", "paper"], "much_of": ["letters", "paper"],
        "papers_of": ["question", "letters", "moment", "row"], "paper_text": ["paper"], "read_paper": ["text"],
    },
    "lacks.py": {
        "lacking": ["question", "river", "where"], "falling": ["question", "river", "where"],
        "freed": ["question", "river", "where"],
    },
    "forms.py": {
        "plain_form": ["sources", "tree"], "steps_of": ["sources", "tree"], "led_by": ["sources", "one", "other"],
    },
    "parting.py": {
        "parted_by": ["question", "key"], "keys_of": ["question"],
        "Parts": {"__init__": ["sources", "questions", "key"], "take": ["happening"], "answers": [], "part": ["number"]},
    },
    "logs.py": {
        "Log": {
            "__init__": ["sources", "questions"], "feed": ["number", "happening"], "fed": [], "told": ["number"],
            "at": ["number"], "due": [], "seen": ["number"], "away": ["number"], "shrunk": [],
        },
        "log_text": ["log"], "begun_of": ["text"],
    },
    "desk.py": {"answered": ["text"]},
    "rules.py": {"rule_names": [], "done_by": ["sources", "tree", "place", "rule"], "fitting": ["sources", "tree"]},
}
ERRORS = "NoSource NoRow NoTerm NoQuestion NoText NoLetter NoMark NoSpot NoRule NoKey NoAsk".split()

BUILTINS = set(
    "len range enumerate zip min max sum abs sorted reversed int str bool bytes list tuple dict set frozenset "
    "isinstance ord repr any all divmod pow getattr hasattr setattr iter next map Exception ValueError TypeError "
    "KeyError IndexError LookupError ZeroDivisionError ArithmeticError OverflowError RuntimeError "
    "NotImplementedError AttributeError StopIteration NotImplemented property staticmethod classmethod super".split()
)
LIBRARY = {
    "heapq": "heappush heappop heapify heapreplace heappushpop", "math": "gcd lcm isqrt comb perm factorial",
    "itertools": "product combinations permutations chain accumulate pairwise islice zip_longest",
    "collections": "defaultdict", "__future__": "annotations",
}
METHODS = set(
    "append clear copy count endswith extend find get index insert isalnum isalpha isdigit islower isspace isupper "
    "items join keys ljust lower lstrip partition pop remove replace reverse rfind rjust rpartition rsplit rstrip "
    "setdefault split splitlines startswith strip update upper values zfill bit_length add discard".split()
)
NOWHERE = set("register mro elements open input law version_info with_traceback add_note".split())
NO_NODES = (
    ast.Global, ast.AsyncFunctionDef, ast.AsyncFor, ast.AsyncWith, ast.Await, ast.Div, ast.MatMult, ast.TryStar,
    ast.Import,
)
BARRED = re.compile(
    r"\b(type|typing|typing_extensions|enum|Enum|IntEnum|StrEnum|Flag|IntFlag|Generic|Protocol|ABC|ABCMeta|"
    r"namedtuple|NamedTuple|TypedDict|TYPE_CHECKING|abstractmethod)\b|dataclass|overload|contextmanager"
)


def parsed():
    return [(path, ast.parse(path.read_text(encoding="utf-8"))) for path in FILES if path.suffix == ".py"]


def named_in(tree):
    """All names that a file gives or reads, attributes' ones too."""
    found = []
    for node in ast.walk(tree):
        for field in ("id", "attr", "arg", "name"):
            word = getattr(node, field, None)
            if isinstance(word, str):
                found.append(word)
    return found


def bound_in(tree):
    found = [node.id for node in ast.walk(tree) if isinstance(node, ast.Name) and not isinstance(node.ctx, ast.Load)]
    found += [node.arg for node in ast.walk(tree) if isinstance(node, ast.arg)]
    return found + [node.name for node in tree.body if isinstance(node, (ast.FunctionDef, ast.ClassDef))]


def taken_by(function):
    return [argument.arg for argument in function.args.args]


class InterfaceTest(unittest.TestCase):
    def test_what_is_listed_is_defined_in_its_file(self):
        for file, listed in INTERFACE.items():
            tree = ast.parse((PACKAGE / file).read_text(encoding="utf-8"))
            there = {node.name: node for node in tree.body if isinstance(node, (ast.FunctionDef, ast.ClassDef))}
            for name, taken in listed.items():
                self.assertIn(name, there, file)
                if isinstance(taken, list):
                    self.assertEqual(taken_by(there[name]), taken, name)
                    continue
                methods = {node.name: node for node in there[name].body if isinstance(node, ast.FunctionDef)}
                for method, arguments in taken.items():
                    self.assertEqual(taken_by(methods[method]), ["self", *arguments], f"{name}.{method}")

    def test_errors_are_defined_in_their_file(self):
        tree = ast.parse((PACKAGE / "errors.py").read_text(encoding="utf-8"))
        there = {node.name: [base.id for base in node.bases] for node in tree.body if isinstance(node, ast.ClassDef)}
        self.assertEqual(there, {"RiverError": ["ValueError"], **{name: ["RiverError"] for name in ERRORS}})


class LanguageTest(unittest.TestCase):
    def test_the_folder_holds_plain_files_alone(self):
        self.assertTrue((PACKAGE / "__init__.py").is_file())
        for path in FILES:
            self.assertRegex(path.name, r"^[a-z0-9_]+\.py$")
            self.assertTrue(path.is_file())

    def test_sizes_and_signs(self):
        for path, tree in parsed():
            text = path.read_text(encoding="utf-8")
            self.assertRegex(text, r"^[ -~\n]*$", path.name)
            lines = text.split("\n")
            self.assertLessEqual(len(lines), 399, path.name)
            self.assertLessEqual(max(len(line) for line in lines), 120, path.name)
            for node in ast.walk(tree):
                if isinstance(node, ast.FunctionDef):
                    self.assertLessEqual(node.end_lineno - node.lineno + 1, 40, node.name)

    def test_imports(self):
        for path, tree in parsed():
            for node in ast.walk(tree):
                if isinstance(node, ast.ImportFrom):
                    self.assertEqual(node.level, 0)
                    self.assertIn(node, tree.body)
                    if not node.module.startswith("lateriver."):
                        for alias in node.names:
                            self.assertIn(alias.name, LIBRARY.get(node.module, "").split(), path.name)
                            self.assertIsNone(alias.asname)

    def test_no_two_files_import_from_each_other(self):
        asked = {}
        for path, tree in parsed():
            asked["lateriver." + path.stem] = [node.module for node in tree.body if isinstance(node, ast.ImportFrom)]
        while asked:
            free = [name for name, others in asked.items() if not any(other in asked for other in others)]
            self.assertTrue(free, "these import from one another: " + " ".join(asked))
            for name in free:
                del asked[name]

    def test_what_is_imported_is_defined_in_the_file_that_is_named(self):
        defined = {}
        for path, tree in parsed():
            names = {node.name for node in tree.body if isinstance(node, (ast.FunctionDef, ast.ClassDef))}
            names |= {target.id for node in tree.body if isinstance(node, ast.Assign) for target in node.targets}
            defined["lateriver." + path.stem] = names
        for path, tree in parsed():
            used = {node.id for node in ast.walk(tree) if isinstance(node, ast.Name)}
            for node in tree.body:
                if isinstance(node, ast.ImportFrom) and node.module in defined:
                    for alias in node.names:
                        self.assertIn(alias.name, defined[node.module], path.name)
                        self.assertIn(alias.name, used, path.name)

    def test_lists_and_dicts_of_modules_are_only_read(self):
        for path, tree in parsed():
            kept = {
                target.id for node in tree.body if isinstance(node, ast.Assign) and isinstance(node.value, (ast.List, ast.Dict))
                for target in node.targets
            }
            for node in ast.walk(tree):
                if isinstance(node, ast.Call) and not (isinstance(node.func, ast.Name) and node.func.id in ("sorted", "list", "dict", "len")):
                    given = [part.id for part in node.args if isinstance(part, ast.Name)]
                    self.assertFalse(kept & set(given), f"{path.name} {node.lineno}")
                if isinstance(node, (ast.Return, ast.Assign)) and isinstance(node.value, ast.Name):
                    self.assertNotIn(node.value.id, kept, f"{path.name} {node.lineno}")

    def test_module_level(self):
        plain = (ast.ImportFrom, ast.FunctionDef, ast.ClassDef, ast.Assign)
        for path, tree in parsed():
            for at, node in enumerate(tree.body):
                docstring = at == 0 and isinstance(node, ast.Expr) and isinstance(node.value, ast.Constant)
                self.assertTrue(docstring or isinstance(node, plain), f"{path.name} {node.lineno}")

    def test_statements_and_values(self):
        for path, tree in parsed():
            for node in ast.walk(tree):
                where = f"{path.name} {getattr(node, 'lineno', '')}"
                self.assertNotIsInstance(node, NO_NODES, where)
                if isinstance(node, ast.Constant):
                    self.assertNotIsInstance(node.value, (float, complex), where)
                    if isinstance(node.value, str):
                        self.assertNotIn("%", node.value, where)

    def test_names(self):
        known = set(dir(builtins))
        for path, tree in parsed():
            bound = bound_in(tree)
            self.assertFalse(known & set(bound), path.name)
            self.assertFalse(NOWHERE & set(named_in(tree)), path.name)
            read = {node.id for node in ast.walk(tree) if isinstance(node, ast.Name)}
            self.assertFalse((read & known) - BUILTINS, path.name)
            for name in read | set(bound):
                self.assertFalse(name.startswith("__"), name)

    def test_no_local_name_is_that_of_a_class_or_an_import_of_its_file(self):
        for path, tree in parsed():
            taken = {node.name for node in tree.body if isinstance(node, ast.ClassDef)}
            taken |= {alias.name for node in tree.body if isinstance(node, ast.ImportFrom) for alias in node.names}
            inside = {
                node.id for function in ast.walk(tree) if isinstance(function, ast.FunctionDef)
                for node in ast.walk(function) if isinstance(node, ast.Name) and isinstance(node.ctx, ast.Store)
            }
            inside |= {node.arg for node in ast.walk(tree) if isinstance(node, ast.arg)}
            self.assertFalse(taken & inside, path.name)

    def test_methods_and_attributes(self):
        own, assigned = set(), set()
        for _, tree in parsed():
            for node in ast.walk(tree):
                if isinstance(node, ast.ClassDef):
                    methods = {part.name for part in node.body if isinstance(part, ast.FunctionDef)}
                    stored = {
                        part.attr for part in ast.walk(node)
                        if isinstance(part, ast.Attribute) and isinstance(part.ctx, ast.Store)
                    }
                    self.assertFalse(methods & stored, node.name)
                    own |= methods
                    assigned |= stored
        for path, tree in parsed():
            called = {
                node.func.attr for node in ast.walk(tree)
                if isinstance(node, ast.Call) and isinstance(node.func, ast.Attribute)
            }
            self.assertFalse(called - METHODS - own, path.name)
            read = {node.attr for node in ast.walk(tree) if isinstance(node, ast.Attribute)}
            self.assertFalse(read - METHODS - own - assigned, path.name)

    def test_names_of_classes_begin_with_a_letter(self):
        for _, tree in parsed():
            for node in ast.walk(tree):
                if isinstance(node, ast.ClassDef):
                    self.assertRegex(node.name, r"^[A-Z]")

    def test_no_generators(self):
        for path, tree in parsed():
            for node in ast.walk(tree):
                self.assertNotIsInstance(node, (ast.GeneratorExp, ast.Yield, ast.YieldFrom, ast.Lambda), path.name)

    def test_barred_words(self):
        for path, tree in parsed():
            words = named_in(tree)
            docs = [
                ast.get_docstring(node, clean=False) for node in ast.walk(tree)
                if isinstance(node, (ast.Module, ast.FunctionDef, ast.ClassDef))
            ]
            words += [
                node.value for node in ast.walk(tree)
                if isinstance(node, ast.Constant) and isinstance(node.value, str) and node.value not in docs
            ]
            for word in words:
                self.assertIsNone(BARRED.search(word), f"{path.name}: {word}")
