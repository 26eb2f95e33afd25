"""Points 3, 4 and 5 of the document: formulas."""

import itertools
import random
import re
import time
import unittest

from allticked.errors import BadFormula
from allticked.formulas import Formula, choice
from tests.pool import any_objects

FORMULAS = [
    "all", "none", "a", "there", "open@shown", "there@shown", "abcdefgh", "abcdefgh@abcdefgh", "not a", "not not a",
    "a and b", "a or b", "a and b or c and d", "not a and b", "(a)", "((a))", "not (a)", "(not a)", "((not (a)))",
    "a and (b or c)", "(a or b) and c", "open and not (mine or old@shown)", "not all", "all or none", "a and a",
    "(a) and (b)", "not (not (a))", "(a and b) and c", "a and not b", "a or not (b and c) or d", "al", "alls", "nothing",
    "ands", "nor", "andy and orb",
]

NO_FORMULAS = [
    "", " ", "a ", " a", "a  and b", "a and  b", "a\tand b", "a\nand b", "a\n", "and", "or", "not", "a and", "and a",
    "a or", "or a", "a b", "a not b", "a and and b", "a and or b", "not and a", "a not", "()", "(", ")", "(a", "a)", "a )",
    "( a)", "( a )", ")a(", "(a))", "((a)", "a)(b", "(a)(b)", "(a) (b)", "(a)and (b)", "(a) and(b)", "not(a)", "(not) a",
    "a (and) b", "a and)(b", "(a and) b", "a (and b)", "abcdefghi", "A", "a1", "a_b", "a-b", "@", "a@", "@a", "a@b@c",
    "a@@b", "a@and", "a@there", "a@all", "a@none", "and@a", "all@a", "none@a", "not@a", "a@abcdefghi", "abcdefghi@a",
    "a @b", "a@ b", "a@(b)", "(a)@b", "a,b", "a & b", "a AND b", "not  a", "a and b ", "\u00e4", "\u0430", "not not",
    "a@B", "A@b", "a\u00a0and b", "a and (b", "a and b)", "(a or b) c", "a (b)", "all none", "not (a) b",
]


def meaning(text, words):
    """Tell whether a formula holds, by Python's own reading of it, for some words."""
    constants = {"all": "True", "none": "False", "and": "and", "or": "or", "not": "not"}
    source = re.sub("[a-z@]+", lambda found: constants.get(found.group(), str(found.group() in words)), text)
    return eval(source)


def lists(words):
    """Tell all choices of some words, shorter first, of as many by their places."""
    return [list(row) for many in range(len(words) + 1) for row in itertools.combinations(words, many)]


def grown(rng, words, depth):
    """Return a tree of a formula: a word, or an operator and trees."""
    kind = rng.choice(["word", "not", "and", "or", "and", "or"]) if depth else "word"
    if kind == "word":
        return rng.choice(words)
    return (kind, *[grown(rng, words, depth - 1) for _ in range(1 if kind == "not" else 2)])


def written(tree, brackets):
    """Write a tree; brackets tells whether some stand around a kind beneath another one."""
    if isinstance(tree, str):
        return tree
    parts = []
    for part in tree[1:]:
        text = written(part, brackets)
        shut = brackets("word" if isinstance(part, str) else part[0], tree[0])
        parts.append(f"({text})" if shut else text)
    return f"not {parts[0]}" if tree[0] == "not" else f" {tree[0]} ".join(parts)


def needed(kind, above):
    return (kind, above) in [("or", "and"), ("or", "not"), ("and", "not")]


def everywhere(kind, above):
    return True


class TestText(unittest.TestCase):

    def test_formulas(self):
        for text in FORMULAS:
            Formula(text)

    def test_all_letters(self):
        for letter in "abcdefghijklmnopqrstuvwxyz":
            self.assertEqual(Formula(f"({letter})").words(), [letter])
            self.assertEqual(Formula(f"not ({letter * 8}@{letter})").words(), [f"{letter * 8}@{letter}"])

    def test_no_formulas(self):
        for text in NO_FORMULAS:
            with self.assertRaises(BadFormula, msg=repr(text)) as caught:
                Formula(text)
            self.assertEqual(caught.exception.text, text)

    def test_any_objects(self):
        things = [thing for thing in any_objects() if not isinstance(thing, str)]
        for thing in [*things, None, b"a", ["a"], ("a",), Formula("a")]:
            with self.assertRaises(BadFormula) as caught:
                Formula(thing)
            self.assertIs(caught.exception.text, thing)

    def test_each_change_of_one_sign_is_read_as_the_document_says(self):
        grammar = Grammar()
        for text in ["not (a or b@c) and all", "(a)", "a and not b"]:
            for at in range(len(text) + 1):
                for sign in ["", " ", "(", ")", "a", "@", "A", "not ", " and "]:
                    for end in (at, at + 1):
                        changed = text[:at] + sign + text[end:]
                        self.assertEqual(grammar.reads(changed), self.accepted(changed), changed)

    def accepted(self, text):
        try:
            Formula(text)
        except BadFormula:
            return False
        return True


class Grammar:
    """The grammar of point 4, word for word: a formula is what one of its rules tells."""

    def __init__(self):
        self.known = {}

    def reads(self, text):
        if text not in self.known:
            self.known[text] = self.tried(text)
        return self.known[text]

    def tried(self, text):
        if text in ("all", "none") or self.is_word(text):
            return True
        if text.startswith("not ") and self.reads(text[4:]):
            return True
        if text.startswith("(") and text.endswith(")") and self.reads(text[1:-1]):
            return True
        for operator in (" and ", " or "):
            at = text.find(operator)
            while at >= 0:
                if self.reads(text[:at]) and self.reads(text[at + len(operator):]):
                    return True
                at = text.find(operator, at + 1)
        return False

    def is_word(self, text):
        found = re.fullmatch("([a-z]{1,8})(@([a-z]{1,8}))?", text)
        reserved = ("and", "or", "not", "all", "none")
        return bool(found) and found.group(1) not in reserved and found.group(3) not in (*reserved, "there")


class TestWords(unittest.TestCase):

    def test_each_once_as_they_first_stand(self):
        cases = [
            ("b and a or b or there", ["b", "a", "there"]), ("all or none", []), ("not (c or b@a) and c and a", ["c", "b@a", "a"]),
            ("a@b or a or b", ["a@b", "a", "b"]), ("not not z", ["z"]), ("d and (c or (b and a))", ["d", "c", "b", "a"]),
        ]
        for text, words in cases:
            self.assertEqual(Formula(text).words(), words)

    def test_the_list_is_new(self):
        formula = Formula("a or b")
        formula.words().append("c")
        formula.words().clear()
        self.assertEqual(formula.words(), ["a", "b"])


class TestHolds(unittest.TestCase):

    def test_how_closely_operators_bind(self):
        self.assertTrue(Formula("a or b and c").holds(["a"]))
        self.assertFalse(Formula("(a or b) and c").holds(["a"]))
        self.assertFalse(Formula("not a and b").holds([]))
        self.assertTrue(Formula("not (a and b)").holds([]))
        self.assertTrue(Formula("not a or b").holds(["a", "b"]))
        self.assertFalse(Formula("not (a or b)").holds(["a", "b"]))

    def test_constants(self):
        self.assertIs(Formula("all").holds([]), True)
        self.assertIs(Formula("none").holds(["none", "all"]), False)
        self.assertIs(Formula("not none").holds(()), True)

    def test_words_with_a_moment_are_words_of_their_own(self):
        self.assertFalse(Formula("open@shown").holds(["open", "shown", "open@done"]))
        self.assertFalse(Formula("open").holds(["open@shown"]))
        self.assertIs(Formula("open@shown").holds(["open@shown"]), True)

    def test_other_things_do_nothing(self):
        others = [*any_objects(), None, "c", "a@b", "b", "b", ["a"], ("a",)]
        self.assertIs(Formula("a and not b").holds([*others, "a"]), False)
        self.assertIs(Formula("a and b").holds([*others, "a"]), True)
        self.assertIs(Formula("a").holds(others), False)

    def test_what_is_passed_is_not_changed(self):
        words = ["b", 5, "a"]
        self.assertTrue(Formula("a").holds(words))
        self.assertTrue(Formula("a").holds(tuple(words)))
        self.assertEqual(words, ["b", 5, "a"])

    def test_as_python_reads_it(self):
        rng = random.Random(4)
        words = ["a", "b", "there", "c@d", "all", "none"]
        for _ in range(300):
            tree = grown(rng, words, 5)
            text = written(tree, lambda kind, above: needed(kind, above) or rng.random() < 0.3)
            formula = Formula(text)
            for row in lists(["a", "b", "there", "c@d"]):
                self.assertIs(formula.holds(row), meaning(text, row), (text, row))


class TestOperatorsAndStr(unittest.TestCase):

    def test_brackets_as_few_as_can_be(self):
        cases = [
            ("(a)", "a"), ("((not ((a))))", "not a"), ("not (not (a))", "not not a"), ("(a and b) and c", "a and b and c"),
            ("a and (b and c)", "a and b and c"), ("a or (b or c)", "a or b or c"), ("(a or b) or (c or d)", "a or b or c or d"),
            ("(a and b) or (c and d)", "a and b or c and d"), ("a and (b or c)", "a and (b or c)"),
            ("(a or b) and (c)", "(a or b) and c"), ("not (a and b)", "not (a and b)"), ("not (a or b)", "not (a or b)"),
            ("(not a) and (not b)", "not a and not b"), ("not (all)", "not all"), ("(none)", "none"),
            ("a and a", "a and a"), ("not ((a or b) and c)", "not ((a or b) and c)"), ("(there@x)", "there@x"),
        ]
        for text, short in cases:
            self.assertEqual(str(Formula(text)), short)

    def test_any_tree(self):
        rng = random.Random(5)
        for _ in range(300):
            tree = grown(rng, ["a", "b", "there", "c@d", "all", "none"], 5)
            short = written(tree, needed)
            self.assertEqual(str(Formula(written(tree, everywhere))), short)
            self.assertEqual(str(Formula(short)), short)

    def test_operators(self):
        one, other = Formula("a or b"), Formula("c and d")
        self.assertEqual(str(one & other), "(a or b) and c and d")
        self.assertEqual(str(other & one), "c and d and (a or b)")
        self.assertEqual(str(one | other), "a or b or c and d")
        self.assertEqual(str(~one), "not (a or b)")
        self.assertEqual(str(~other), "not (c and d)")
        self.assertEqual(str(~~Formula("a")), "not not a")
        self.assertEqual(str(~Formula("a") & ~Formula("all")), "not a and not all")
        self.assertEqual(str((one | other) | (one & one)), "a or b or c and d or (a or b) and (a or b)")

    def test_operators_give_formulas_and_change_none(self):
        one, other = Formula("a or b"), Formula("c")
        for told in (one & other, one | other, ~one):
            self.assertIsInstance(told, Formula)
        self.assertEqual([str(one), str(other)], ["a or b", "c"])
        for row in lists(["a", "b", "c"]):
            self.assertIs((one & other).holds(row), one.holds(row) and other.holds(row))
            self.assertIs((one | other).holds(row), one.holds(row) or other.holds(row))
            self.assertIs((~one).holds(row), not one.holds(row))


class TestEqualAndChoice(unittest.TestCase):

    def test_equal_however_written(self):
        pairs = [
            ("a", "not not a"), ("a and b", "b and a"), ("not (a or b)", "not a and not b"), ("all", "a or not a"),
            ("none", "b and not b"), ("a or not a", "b or not b"), ("a", "a and (b or not b)"), ("all", "not none"),
        ]
        for one, other in pairs:
            self.assertTrue(Formula(one) == Formula(other))
            self.assertFalse(Formula(one) != Formula(other))
            self.assertIsNone(choice(one, other))

    def test_unequal(self):
        pairs = [("a", "b"), ("a and b", "a or b"), ("all", "none"), ("a", "not a"), ("a", "a@b"), ("there", "all"), ("a", "all")]
        for one, other in pairs:
            self.assertFalse(Formula(one) == Formula(other))
            self.assertTrue(Formula(one) != Formula(other))
            self.assertIsNotNone(choice(one, other))

    def test_equal_to_nothing_else(self):
        for thing in [*any_objects(), None, "a", ["a"], ("a",)]:
            if not isinstance(thing, Formula):
                self.assertIs(Formula("a") == thing, False)
                self.assertIs(thing == Formula("a"), False)

    def test_the_first_choice(self):
        self.assertEqual(choice("all", "none"), [])
        self.assertEqual(choice("a or b", "b"), ["a"])
        self.assertEqual(choice("b or a", "none"), ["b"])
        self.assertEqual(choice("none", "b or a"), ["b"])
        self.assertEqual(choice("a and b or c", "c"), ["a", "b"])
        self.assertEqual(choice("c and c or a", "a or c and b"), ["c"])
        self.assertEqual(choice("c", "b and a or c"), ["b", "a"])
        self.assertEqual(choice("d and c and (b or a)", "none"), ["d", "c", "b"])

    def test_all_choices(self):
        rng = random.Random(6)
        for _ in range(200):
            one = written(grown(rng, ["b", "a", "there", "c@d"], 4), needed)
            other = written(grown(rng, ["c@d", "e", "a", "all"], 4), needed)
            words = Formula(one).words() + [word for word in Formula(other).words() if word not in Formula(one).words()]
            unlike = [row for row in lists(words) if meaning(one, row) != meaning(other, row)]
            self.assertEqual(choice(one, other), unlike[0] if unlike else None)
            self.assertEqual(choice(Formula(one), Formula(other)), unlike[0] if unlike else None)
            self.assertEqual(Formula(one) == Formula(other), not unlike)

    def test_the_list_is_new(self):
        one, other = Formula("a or b"), Formula("b")
        choice(one, other).clear()
        self.assertEqual(choice(one, other), ["a"])
        self.assertEqual(str(one), "a or b")

    def test_errors_in_their_order(self):
        for thing in [*NO_FORMULAS, None, 5, ["a"], ("a",), {}]:
            for one, other in [(thing, "a"), ("a", thing), (thing, "a and"), (Formula("a"), thing)]:
                with self.assertRaises(BadFormula) as caught:
                    choice(one, other)
                self.assertEqual(caught.exception.text, thing)


class TestLimits(unittest.TestCase):

    def test_many_words_are_quick(self):
        one = " or ".join(["a and b and not c and (d or not (e or f)) and g and h"] * 50)
        other = " or ".join(["j and b and not c and (d or not (e or f)) and g and i"] * 50)
        begin = time.perf_counter()
        self.assertEqual(choice(one, other), ["a", "b", "g", "h"])
        self.assertIsNone(choice(one, str(Formula(one))))
        self.assertTrue(Formula(one) == Formula("h and g and (d or not e and not f) and not c and b and a"))
        self.assertLess(time.perf_counter() - begin, 5)

    def test_deep_brackets_and_somewhat_beyond(self):
        for many in (20, 24, 400):
            text = "(" * many + "a" + ")" * many
            self.assertEqual(str(Formula(text)), "a")
            self.assertEqual(str(Formula("not " * many + "a")), "not " * many + "a")
            self.assertIs(Formula("not " * many + "a").holds(["a"]), many % 2 == 0)
            deep = "not (a or " * many + "b" + ")" * many
            self.assertEqual(str(Formula(deep)), deep)
            self.assertEqual(Formula(deep).words(), ["a", "b"])
            self.assertRaises(BadFormula, Formula, "(" * many + "a" + ")" * (many - 1))


if __name__ == "__main__":
    unittest.main()
