"""Any objects, as point 3 of the document means them, for tests of what is refused."""

from allticked.errors import BadName
from allticked.formulas import Formula
from allticked.keepings import Keeping
from allticked.stories import run
from allticked.worlds import World


def looped():
    """Return a list that holds itself."""
    rows = []
    rows.append(rows)
    return rows


def deep(many):
    """Return lists within one another, deeper than Python writes them."""
    rows = []
    for _ in range(many):
        rows = [rows]
    return rows


def any_objects():
    """Return new objects of all kinds, none of them a name, a formula, a state or a moment of a world."""
    world = World(["aa"], ["bb"], [])
    keeping = Keeping(world, [("mark", "bb", "cc", "aa")])
    return [
        True, False, 0, 1, -1, 3, 10 ** 5000, "", " ", "A", "a b", "a1", "no_name", "a" * 9, "and", "or", "not", "there ",
        [1], [None], ["a b"], [["open"]], ["open", "open"], (2,), ("open", 1), {"open": True}, {}, {1: 2}, [{}], ({},),
        looped(), deep(3000), Formula("ab"), [Formula("ab")], world, keeping, [keeping], run(keeping, (), []), BadName("c"),
        Formula, "\u00e4",
    ]


def any_keys():
    """Return objects of all kinds that can be keys, none of them a moment."""
    return [None, True, False, 0, 1, -5, "", "A", "no moment", "and", (), (1, "a"), (None, ("b",)), BadName("c")]
