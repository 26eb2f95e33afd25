"""Counts: whole numbers of rows, added up over a list."""

from allticked.errors import BadNumber
from allticked.formulas import Formula, known_formula


class Count:
    """Gives each row the sum of the integers of those formulas that hold for it."""

    def __init__(self, terms):
        formulas = [Formula(text) for text in terms]
        self.numbers = list(zip(formulas, [terms[text] for text in terms]))
        for formula, number in self.numbers:
            if not is_integer(number):
                raise BadNumber(number)

    def terms(self):
        """List the pairs of a formula and its integer."""
        return list(self.numbers)

    def of(self, story):
        """Tell the number of a story."""
        check_known(story.keeping, [self])
        words = story.words()
        return sum([number for formula, number in self.numbers if formula.holds(words)])

    def total(self, parts):
        """Tell the sum over a list of rows that is told by parts."""
        return sum([many * self.of(story) for story, many in parts])


def is_integer(thing):
    """Tell whether any object is an integer."""
    return isinstance(thing, int) and not isinstance(thing, bool)


def check_known(keeping, counts):
    """Refuse the first word of counts that a keeping does not know."""
    words = keeping.words()
    for count in counts:
        for formula, number in count.terms():
            known_formula(formula, words)
