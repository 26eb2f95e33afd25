"""Formulas: texts that hold or not, by which words do."""

from allticked.errors import BadFormula, NoWord
from allticked.names import is_name
from allticked.orders import subsets

CONSTANTS = ("all", "none")
OPERATORS = ("and", "or", "not")
# How closely the signs bind: a bracket that is open keeps all behind it together.
RANKS = {"(": 0, "or": 1, "and": 2, "not": 3}
RANK_OF_WORDS = 4


class Formula:
    """A formula that a text tells. Its code has each operator behind what it joins."""

    def __init__(self, text):
        signs = signs_of(text)
        if not signs:
            raise BadFormula(text)
        self.code = code_of(signs)

    def words(self):
        """List the words, each once, as they first stand."""
        return words_of([self])

    def holds(self, words):
        """Tell whether the formula holds if just the listed words do."""
        return worth(self.code, {word: int(word in words) for word in self.words()}, 1) == 1

    def __and__(self, other):
        return Formula(f"({self}) and ({as_formula(other)})")

    def __or__(self, other):
        return Formula(f"({self}) or ({as_formula(other)})")

    def __invert__(self):
        return Formula(f"not ({self})")

    def __eq__(self, other):
        return isinstance(other, Formula) and differing(self, other) == 0

    def __str__(self):
        return str(text_of(self.code))


def choice(one, other):
    """Tell the first list of words for which just one of two formulas holds, or None."""
    first = as_formula(one)
    second = as_formula(other)
    bits = differing(first, second)
    words = words_of([first, second])
    for row in subsets(words):
        if bits >> sum([1 << words.index(word) for word in row]) & 1:
            return list(row)
    return None


def as_formula(thing):
    """Take a formula that is passed as a text or as a Formula object."""
    return thing if isinstance(thing, Formula) else Formula(thing)


def known_formula(thing, words):
    """Take a formula that may have just some words."""
    formula = as_formula(thing)
    for word in formula.words():
        if word not in words:
            raise NoWord(word)
    return formula


def is_word(text):
    """Tell whether a text is a word."""
    head, at, tail = text.partition("@")
    return (head == "there" or is_name(head)) and (at == "" or is_name(tail))


def signs_of(text):
    """List the brackets, operators and words of a text; nothing if any object is no formula."""
    if not isinstance(text, str):
        return []
    signs = []
    depth = 0
    # A formula must begin where the text does and behind each operator, and nowhere else.
    wanted = True
    for piece in text.split(" "):
        behind = piece.lstrip("(")
        core = behind.rstrip(")")
        many_open = len(piece) - len(behind)
        many_shut = len(behind) - len(core)
        depth = depth + many_open - many_shut
        if depth < 0 or not can_stand(core, many_open, many_shut, wanted):
            return []
        wanted = core in OPERATORS
        signs.extend(["("] * many_open + [core] + [")"] * many_shut)
    return [] if wanted or depth > 0 else signs


def can_stand(core, many_open, many_shut, wanted):
    """Tell whether what stands between brackets can stand there, and they around it."""
    if core == "not":
        return wanted and many_shut == 0
    if core in OPERATORS:
        return not wanted and many_open == 0 and many_shut == 0
    return wanted and (core in CONSTANTS or is_word(core))


def code_of(signs):
    """Put each operator behind what it joins, so that no brackets are needed."""
    code = []
    waiting = []
    for sign in signs:
        if sign == "(" or sign == "not":
            waiting.append(sign)
        elif sign == ")":
            while waiting[-1] != "(":
                code.append(waiting.pop())
            waiting.pop()
        elif sign in OPERATORS:
            while waiting and RANKS[waiting[-1]] >= RANKS[sign]:
                code.append(waiting.pop())
            waiting.append(sign)
        else:
            code.append(sign)
    return tuple(code + waiting[::-1])


def text_of(code):
    """Write a formula with as few brackets as can be."""
    rows = []
    for sign in code:
        if sign not in OPERATORS:
            rows.append((sign, RANK_OF_WORDS))
            continue
        rank = RANKS[sign]
        text = f"{sign} {bracketed(rows.pop(), rank)}"
        if sign != "not":
            text = f"{bracketed(rows.pop(), rank)} {text}"
        rows.append((text, rank))
    return rows[0][0]


def bracketed(row, rank):
    """Write what stands beneath an operator: in brackets just if it binds less closely."""
    text, own = row
    return f"({text})" if own < rank else text


def words_of(formulas):
    """List the words of some formulas, each once, as they first stand."""
    words = []
    for formula in formulas:
        for sign in formula.code:
            if sign not in OPERATORS and sign not in CONSTANTS and sign not in words:
                words.append(sign)
    return words


def worth(code, columns, full):
    """Tell in which of many cases a formula holds, one bit each; columns tell it of words."""
    rows = []
    for sign in code:
        if sign == "not":
            rows.append(full ^ rows.pop())
        elif sign == "and":
            rows.append(rows.pop() & rows.pop())
        elif sign == "or":
            rows.append(rows.pop() | rows.pop())
        elif sign in CONSTANTS:
            rows.append(full if sign == "all" else 0)
        else:
            rows.append(columns[sign])
    return rows[0]


def differing(one, other):
    """Tell for which choices of their words just one of two formulas holds, one bit each."""
    words = words_of([one, other])
    return table_of(one, words) ^ table_of(other, words)


def table_of(formula, words):
    """Tell for which choices of some words a formula holds, one bit each.

    The bits of a choice's number tell which words it has.
    """
    columns = {word: column(at, len(words)) for at, word in enumerate(words)}
    return worth(formula.code, columns, (1 << (1 << len(words))) - 1)


def column(at, many):
    """Tell which choices of so many words have the word at a place, one bit each."""
    width = 1 << at
    bits = ((1 << width) - 1) << width
    for place in range(at + 1, many):
        bits = bits | bits << (1 << place)
    return bits
