"""Those rules of the language that can be seen in a file at a glance, and where the interface stands."""

import ast
import builtins
import importlib
import inspect
import os
import re
import unittest

FOLDER = os.path.join(os.path.dirname(os.path.dirname(os.path.abspath(__file__))), "allticked")

INTERFACE = {
    "formulas": {
        "Formula": ["__init__", "words", "holds", "__and__", "__or__", "__invert__", "__eq__", "__str__"], "choice": ["one", "other"],
    },
    "worlds": {
        "World": [
            "__init__", "event_names", "all_states", "begins", "can", "after", "leads", "way", "span", "until", "__eq__",
        ],
    },
    "keepings": {
        "Keeping": [
            "__init__", "names", "deeds", "words", "formula", "moment_of", "effect_of", "stopping", "changed", "__eq__",
        ],
    },
    "ready": {
        "these": ["world", "tick", "done", "wanted", "effect"], "by_question": ["world", "done", "wanted", "effect"],
        "all_but": ["world", "tick", "done", "wanted", "out", "effect"], "of_then": ["world", "tick", "done", "wanted", "effect"],
        "both_times": ["world", "tick", "done", "wanted", "effect"], "joined": ["one", "other", "word"],
    },
    "stories": {
        "Story": ["__init__", "words", "holds", "__eq__"], "run": ["keeping", "state", "events", "left"], "stories": ["keeping"],
        "harmed": ["keeping", "harm"], "reached": ["keeping"],
    },
    "twins": {"worse": ["one", "other", "harm"], "parting": ["one", "other", "wish"]},
    "marks": {
        "demands": ["world", "tick", "done", "must", "never"], "quarrel": ["world", "tick", "done", "must", "never"],
        "least_marks": ["world", "tick", "done", "must", "never"],
        "kept_for": ["world", "tick", "done", "must", "never", "effect", "eager"],
    },
    "rules": {
        "views": ["keeping", "deed", "must", "never"], "careful": ["keeping", "deed", "must", "never"],
        "eager_one": ["keeping", "deed", "must", "never"],
    },
    "counts": {"Count": ["__init__", "terms", "of", "total"]},
    "hiding": {
        "hidden": ["keeping", "harm", "counts"], "weights": ["keeping", "harm", "counts"],
        "is_weights": ["keeping", "harm", "counts", "thing"], "most": ["keeping", "harm", "counts", "slack"],
        "guards": ["keeping", "harm", "counts"], "unsettled": ["keeping", "counts", "count"],
    },
    "trials": {"Trials": ["__init__", "views", "row", "saw", "told", "unseen", "fits", "fitting", "parting"]},
    "living": {
        "Live": [
            "__init__", "names", "state_of", "holds", "struck", "happens", "stop", "go", "story_of", "totals", "undo", "copy", "tried",
        ],
    },
}
PARAMETERS = {
    "formulas.Formula.__init__": "(self, text)", "formulas.Formula.words": "(self)", "formulas.Formula.holds": "(self, words)",
    "worlds.World.__init__": "(self, facts, moments, events, spans=None, first='all')", "worlds.World.event_names": "(self)",
    "worlds.World.all_states": "(self)", "worlds.World.begins": "(self)", "worlds.World.can": "(self, state, event)",
    "worlds.World.after": "(self, state, event)", "worlds.World.leads": "(self, state, moment)",
    "worlds.World.way": "(self, state, other, moment)", "worlds.World.span": "(self, moment)", "worlds.World.until": "(self, moment)",
    "keepings.Keeping.__init__": "(self, world, steps)", "keepings.Keeping.names": "(self)", "keepings.Keeping.deeds": "(self)",
    "keepings.Keeping.words": "(self)", "keepings.Keeping.formula": "(self, name)", "keepings.Keeping.moment_of": "(self, name)",
    "keepings.Keeping.effect_of": "(self, name)", "keepings.Keeping.stopping": "(self)",
    "keepings.Keeping.changed": "(self, name, formula)", "stories.Story.words": "(self)", "stories.Story.holds": "(self, formula)",
    "counts.Count.__init__": "(self, terms)", "counts.Count.terms": "(self)", "counts.Count.of": "(self, story)",
    "counts.Count.total": "(self, parts)", "trials.Trials.__init__": "(self, keeping, deed)", "trials.Trials.views": "(self)",
    "trials.Trials.row": "(self, view)", "trials.Trials.saw": "(self, view, taken)", "trials.Trials.told": "(self, view)",
    "trials.Trials.unseen": "(self)", "trials.Trials.fits": "(self, formula)", "trials.Trials.fitting": "(self, formulas)",
    "trials.Trials.parting": "(self, one, other)", "living.Live.__init__": "(self, keeping, rows)", "living.Live.names": "(self)",
    "living.Live.state_of": "(self, name)", "living.Live.holds": "(self, name)", "living.Live.struck": "(self, deed)",
    "living.Live.happens": "(self, name, event)", "living.Live.stop": "(self, name, deed)", "living.Live.go": "(self)",
    "living.Live.story_of": "(self, name)", "living.Live.totals": "(self, counts)", "living.Live.undo": "(self)",
    "living.Live.copy": "(self)", "living.Live.tried": "(self, work)",
}

ALLOWED = set(
    "len range enumerate zip min max sum abs sorted reversed int str bool list tuple dict set isinstance ord repr any all divmod "
    "iter next ValueError KeyError".split()
)
METHODS = set(
    "append clear copy count endswith extend find get index insert isalnum isalpha isdigit islower isspace isupper items join keys "
    "ljust lower lstrip partition pop remove replace reverse rfind rjust rpartition rsplit rstrip setdefault split splitlines "
    "startswith strip update upper values zfill bit_length".split()
)
BARRED = set(
    "register mro elements open input law version_info with_traceback add_note attrgetter breakpoint builtins compile copyright "
    "credits delattr dir eval exec exit gc getattr globals hasattr help id importlib license locals methodcaller os quit setattr "
    "super type vars sys format format_map".split()
)
WORDS = (
    "type|typing|typing_extensions|enum|Enum|IntEnum|StrEnum|Flag|IntFlag|Generic|Protocol|ABC|ABCMeta|namedtuple|NamedTuple|"
    "TypedDict|TYPE_CHECKING|abstractmethod"
)
DOUBLE = {"__init__", "__eq__", "__str__", "__and__", "__or__", "__invert__"}


def files():
    """Return the names of the package's files with their texts."""
    told = {}
    for name in sorted(os.listdir(FOLDER)):
        if name != "__pycache__":
            with open(os.path.join(FOLDER, name), encoding="utf-8", newline="") as handle:
                told[name] = handle.read()
    return told


def nodes(kind):
    """Return all nodes of a kind, each with the file it stands in."""
    return [(name, node) for name, text in files().items() for node in ast.walk(ast.parse(text)) if isinstance(node, kind)]


def bound():
    """Return all names that anything is given, each with its file."""
    told = [(name, node.id) for name, node in nodes(ast.Name) if isinstance(node.ctx, ast.Store)]
    told += [(name, node.arg) for name, node in nodes(ast.arg)]
    told += [(name, node.name) for name, node in nodes((ast.FunctionDef, ast.ClassDef))]
    return told


def methods():
    """Return the names of all methods."""
    return {part.name for _, node in nodes(ast.ClassDef) for part in node.body if isinstance(part, ast.FunctionDef)}


class TestLanguage(unittest.TestCase):

    def test_files(self):
        for name, text in files().items():
            self.assertRegex(name, "^[a-z_]+[.]py$")
            self.assertRegex(text, "^[ -~\n]*$", name)
            self.assertLess(text.count("\n"), 400, name)
            self.assertLessEqual(max(map(len, text.split("\n"))), 120, name)
            self.assertIsNone(re.search(rf"\b({WORDS})\b|dataclass|overload|contextmanager", text), name)

    def test_functions_are_small_and_plain(self):
        for name, node in nodes(ast.FunctionDef):
            self.assertLessEqual(node.end_lineno - node.lineno + 1, 40, (name, node.name))
            self.assertEqual([node.decorator_list, node.args.posonlyargs], [[], []], (name, node.name))

    def test_imports(self):
        told = {name: [] for name in files()}
        for name, node in nodes((ast.Import, ast.ImportFrom)):
            self.assertIsInstance(node, ast.ImportFrom, name)
            self.assertRegex(node.module, "^allticked[.][a-z_]+$", name)
            source = node.module.split(".")[1] + ".py"
            told[name].append(source)
            defined = ast.parse(files()[source]).body
            names = [part.name for part in defined if isinstance(part, (ast.FunctionDef, ast.ClassDef))]
            names += [part.targets[0].id for part in defined if isinstance(part, ast.Assign)]
            for alias in node.names:
                self.assertIn(alias.name, names, name)
                self.assertIsNone(alias.asname, name)
        while told:
            free = [name for name in told if not set(told[name]) & set(told)]
            self.assertTrue(free, "files that import each other")
            for name in free:
                del told[name]

    def test_names(self):
        for name, word in bound():
            if word not in DOUBLE:
                self.assertRegex(word, "^[A-Za-z][A-Za-z0-9_]*$", name)
                self.assertFalse(word in BARRED or hasattr(builtins, word), (name, word))
        for name, node in nodes(ast.Name):
            if isinstance(node.ctx, ast.Load) and hasattr(builtins, node.id):
                self.assertIn(node.id, ALLOWED, name)

    def test_no_variable_has_the_name_of_a_class_or_an_import(self):
        for file, text in files().items():
            tree = ast.parse(text)
            taken = {alias.name for node in ast.walk(tree) if isinstance(node, ast.ImportFrom) for alias in node.names}
            taken |= {node.name for node in tree.body if isinstance(node, ast.ClassDef)}
            names = {node.id for node in ast.walk(tree) if isinstance(node, ast.Name) and isinstance(node.ctx, ast.Store)}
            names |= {node.arg for node in ast.walk(tree) if isinstance(node, ast.arg)}
            self.assertEqual(names & taken, set(), file)

    def test_what_is_iterated_on_the_spot_is_not_stored(self):
        for name, node in nodes((ast.Assign, ast.Return)):
            if isinstance(node.value, ast.Call) and isinstance(node.value.func, (ast.Name, ast.Attribute)):
                called = node.value.func
                word = called.id if isinstance(called, ast.Name) else called.attr
                self.assertNotIn(word, ("zip", "range", "enumerate", "reversed", "items", "keys", "values"), name)

    def test_attributes_and_methods(self):
        own = methods()
        stored = {node.attr for _, node in nodes(ast.Attribute) if isinstance(node.ctx, ast.Store)}
        self.assertEqual(own & stored, set())
        for name, node in nodes(ast.Attribute):
            self.assertIn(node.attr, own | stored | METHODS, name)

    def test_statements_and_expressions(self):
        barred = (ast.Global, ast.AsyncFunctionDef, ast.Div)
        self.assertEqual(nodes(barred), [])
        for name, node in nodes(ast.Constant):
            self.assertNotIsInstance(node.value, (float, complex), name)
            self.assertNotIn("%", str(node.value), name)
        for name, node in nodes(ast.Compare):
            for sign, right in zip(node.ops, node.comparators):
                if isinstance(sign, (ast.Is, ast.IsNot)):
                    self.assertTrue(isinstance(right, ast.Constant) and right.value in (None, True, False), name)
        for name, node in nodes(ast.Call):
            called = node.func.id if isinstance(node.func, ast.Name) else ""
            if called in ("sum", "min", "max", "sorted", "any", "all"):
                self.assertNotIsInstance(node.args[0], ast.GeneratorExp, name)


class TestInterface(unittest.TestCase):

    def test_each_stands_in_its_file_and_each_method_in_its_class(self):
        for file, things in INTERFACE.items():
            module = importlib.import_module(f"allticked.{file}")
            for name, parts in things.items():
                thing = getattr(module, name)
                self.assertEqual(thing.__module__, f"allticked.{file}")
                if isinstance(thing, type):
                    for part in parts:
                        self.assertIn(part, vars(thing), name)
                else:
                    self.assertEqual(list(inspect.signature(thing).parameters), parts)

    def test_eager_stands_behind_a_star(self):
        eager = inspect.signature(importlib.import_module("allticked.marks").kept_for).parameters["eager"]
        self.assertEqual([eager.kind, eager.default], [inspect.Parameter.KEYWORD_ONLY, False])

    def test_parameters(self):
        for place, told in PARAMETERS.items():
            file, name, method = place.split(".")
            thing = vars(getattr(importlib.import_module(f"allticked.{file}"), name))[method]
            self.assertEqual(str(inspect.signature(thing)), told, place)


if __name__ == "__main__":
    unittest.main()
