"""The order in which choices of some things stand, and choices that are told by lists."""


def subsets(things):
    """List all choices of some things as tuples: shorter first, of as many by their places."""
    told = []
    rows = [()]
    while rows:
        told.extend(rows)
        # Rows of one length stand by their places, so each one behind them does, too.
        rows = [row + (at,) for row in rows for at in range(row[-1] + 1 if row else 0, len(things))]
    return [tuple([things[at] for at in row]) for row in told]


def is_choice(thing, names):
    """Tell whether any object is a list of unlike ones of some names."""
    if not isinstance(thing, (list, tuple)) or not all([one in names for one in thing]):
        return False
    return len(set(thing)) == len(thing)
