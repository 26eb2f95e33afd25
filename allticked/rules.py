"""Rules: which formula a deed should have, by what it can look at."""

from allticked.brought import by_views, case_of, keeping_ahead, view_of, words_of_views
from allticked.steps import words_for
from allticked.wishes import known_wish, wishes_by, word_for
from allticked.written import written


def views(keeping, deed, must, never):
    """Tell for each view that rows bring to a deed what the wish says of it."""
    ahead = keeping_ahead(keeping, deed)
    wish = known_wish(ahead, must, never)
    told = wishes_by(ahead, wish, words_of_views(ahead), lambda path: view_of(ahead, path))
    return {view: word_for(paths) for view, paths in by_views(ahead, told).items()}


def careful(keeping, deed, must, never):
    """Tell the keeping in which a deed takes a row just in views with "take"."""
    return ruled(keeping, deed, views(keeping, deed, must, never), ["take"])


def eager_one(keeping, deed, must, never):
    """Tell the keeping in which a deed takes a row in all views but those with "leave"."""
    return ruled(keeping, deed, views(keeping, deed, must, never), ["take", "free", "both"])


def ruled(keeping, deed, told, taking):
    """Tell the keeping in which a deed takes the rows that are there in views with some words."""
    words = words_for(keeping.world, keeping.steps[:keeping.names().index(deed)])
    # A row that is not there can be taken by no formula, so none has to hold for it.
    wanted = [view for view in told if told[view] in taking and view[0] is not None]
    formula = written(words, [case_of(view) for view in told], [case_of(view) for view in wanted])
    return keeping.changed(deed, formula)
