"""Tables: what is left of formulas as their words become known, moment by moment.

A table has one bit for each choice of the words of its formula, as in formulas.py. Once a word
is known, just the bits of the choices without it are left, and tell what holds as it is known.
"""

from allticked.formulas import column, table_of


def tables_of(formulas):
    """Tell the tables of formulas of which no word is known."""
    return tuple([table_of(formula, formula.words()) for formula in formulas])


def truths_of(tables):
    """Tell which formulas hold, if all of their words are known."""
    return tuple([bits & 1 == 1 for bits in tables])


class Sieve:
    """Makes some words known to tables of formulas. Most rows ask the same, so it keeps its answers."""

    def __init__(self, formulas, words):
        self.spots = []
        for at, formula in enumerate(formulas):
            own = formula.words()
            for place, word in enumerate(own):
                if word in words:
                    width = 1 << place
                    self.spots.append((at, word, width, column(place, len(own)) >> width))
        self.answers = {}

    def left_of(self, tables, held):
        """Tell what is left of the tables if just these of the words hold."""
        if not self.spots:
            return tables
        if (tables, held) not in self.answers:
            told = list(tables)
            for at, word, width, without in self.spots:
                # The choices with a word stand just this far above those without it.
                told[at] = (told[at] >> width if word in held else told[at]) & without
            self.answers[(tables, held)] = tuple(told)
        return self.answers[(tables, held)]
