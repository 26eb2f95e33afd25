"""Formulas that are written for rules: as short as may be, from the cases in which they must hold."""

from allticked.formulas import Formula


def written(words, cases, wanted):
    """Write a formula that of some cases holds just in the wanted ones.

    A case is told by the list of the words that hold in it. What the formula tells of choices of
    words that are no case is free, so that it can be short.
    """
    return Formula(text_of(words, bits_of(words, wanted), bits_of(words, cases)))


def bits_of(words, cases):
    """Tell which choices of some words are cases, one bit each, as in tables."""
    bits = 0
    for case in cases:
        bits = bits | 1 << sum([1 << at for at, word in enumerate(words) if word in case])
    return bits


def text_of(words, wanted, cases):
    """Tell the text: it asks for the last word, then for those ahead of it, in as far as this is needed."""
    if wanted == 0:
        return "none"
    if wanted == cases:
        return "all"
    half = 1 << (len(words) - 1)
    lower = (1 << half) - 1
    wanted_with, cases_with = wanted >> half, cases >> half
    wanted_without, cases_without = wanted & lower, cases & lower
    if wanted_with & cases_without == wanted_without & cases_with:
        # The word tells no cases apart, so both halves can be laid on each other.
        return text_of(words[:-1], wanted_with | wanted_without, cases_with | cases_without)
    return joined_text(
        words[-1], text_of(words[:-1], wanted_with, cases_with), text_of(words[:-1], wanted_without, cases_without),
    )


def joined_text(word, with_it, without):
    """Tell the text that asks for a word, and then for one text with it and for another one without."""
    if with_it == "all":
        return word if without == "none" else f"{word} or {without}"
    if without == "all":
        return f"not {word}" if with_it == "none" else f"not {word} or {with_it}"
    parts = []
    if with_it != "none":
        parts.append(f"{word} and ({with_it})")
    if without != "none":
        parts.append(f"not {word} and ({without})")
    return " or ".join(parts)
