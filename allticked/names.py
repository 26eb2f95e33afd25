"""What a name is."""

LETTERS = "abcdefghijklmnopqrstuvwxyz"
LONGEST = 8
# These mean something of their own in formulas, so nothing else may be called so.
RESERVED = ("and", "or", "not", "there", "all", "none")


def is_name(thing):
    """Tell whether any object is a name."""
    if not isinstance(thing, str) or thing in RESERVED:
        return False
    return 1 <= len(thing) <= LONGEST and all([sign in LETTERS for sign in thing])
