"""Wishes: which rows have to be taken, and which must not be, by what a rule can know of them."""

from allticked.firsts import first_paths
from allticked.formulas import Formula, known_formula
from allticked.paths import earlier


def known_wish(keeping, must, never):
    """Take the two formulas of a wish, with words that the stories of a keeping know."""
    words = keeping.words()
    return known_formula(must, words), known_formula(never, words)


def wishes_by(keeping, wish, words, key_of):
    """Tell for each key of paths the first path in which must holds and the first in which never does.

    None stands for no such path. The key of a path hangs on which of the words hold.
    """
    formulas = [*wish, *[Formula(word) for word in words]]
    told = {}
    for truths, path in first_paths(keeping, formulas).items():
        key = key_of(path)
        must, never = told.get(key, (None, None))
        told[key] = (earlier(path, must) if truths[0] else must, earlier(path, never) if truths[1] else never)
    return told


def word_for(wish):
    """Tell the word for what is wished, by the first paths in which must and never hold."""
    must, never = wish
    if must is None:
        return "free" if never is None else "leave"
    return "take" if never is None else "both"
