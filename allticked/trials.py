"""Trials: finding out the rule of a deed by rows that it struck or not."""

from allticked.brought import by_views, case_of, keeping_ahead, view_of, words_of_views
from allticked.errors import BadTruth, Contradiction, NoView
from allticked.firsts import first_paths
from allticked.formulas import Formula, known_formula
from allticked.paths import earlier
from allticked.steps import words_for


class Trials:
    """The views that rows can bring to a deed, and what was seen of them."""

    def __init__(self, keeping, deed):
        ahead = keeping_ahead(keeping, deed)
        self.known = words_for(ahead.world, ahead.steps)
        self.brought = by_views(ahead, paths_by_views(ahead))
        self.seen = {}

    def views(self):
        """List all views that a row can bring to the deed."""
        return list(self.brought)

    def row(self, view):
        """Tell a row that brings a view: its first state, its events, and where it is left out."""
        many, places, taken, states, events, left_out, held = self.brought[self.read_view(view)]
        return states[0], [list(names) for names in events], list(left_out)

    def saw(self, view, taken):
        """Take in that a row with a view was struck, or that it was not."""
        known = self.read_view(view)
        if not isinstance(taken, bool):
            raise BadTruth(taken)
        if self.seen.get(known, taken) != taken:
            raise Contradiction(view)
        self.seen[known] = taken

    def told(self, view):
        """Tell what was taken in for a view, or None."""
        return self.seen.get(self.read_view(view))

    def unseen(self):
        """List the views that were not taken in."""
        return [view for view in self.brought if view not in self.seen]

    def fits(self, formula):
        """Tell whether a rule strikes just where rows were struck."""
        rule = known_formula(formula, self.known)
        return all([strikes(rule, view) == self.seen[view] for view in self.seen])

    def fitting(self, formulas):
        """List those of some formulas that fit."""
        return [formula for formula in formulas if self.fits(formula)]

    def parting(self, one, other):
        """Tell the first unseen view at which just one of two rules strikes, or None."""
        rule = known_formula(one, self.known)
        rule_too = known_formula(other, self.known)
        for view in self.unseen():
            if strikes(rule, view) != strikes(rule_too, view):
                return view
        return None

    def read_view(self, thing):
        """Take a view, which may be told by lists."""
        if isinstance(thing, (list, tuple)):
            told = tuple([tuple(part) if isinstance(part, (list, tuple)) else part for part in thing])
            for view in self.brought:
                if view == told:
                    return view
        raise NoView(thing)


def paths_by_views(ahead):
    """Tell for each view the first path that brings it."""
    told = {}
    for path in first_paths(ahead, [Formula(word) for word in words_of_views(ahead)]).values():
        view = view_of(ahead, path)
        told[view] = earlier(path, told.get(view))
    return told


def strikes(rule, view):
    """Tell whether a rule strikes at a view: never at a row that is not there."""
    return view[0] is not None and rule.holds(case_of(view))
