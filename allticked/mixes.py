"""Mixes: sums of vectors that may stand less than 0 times in them."""


def mix_to_last(vectors):
    """Tell how often vectors stand in a mix in which just the last of its numbers is not 0, or None.

    Each vector is cleared of the numbers with which earlier ones begin. If then nothing but its
    last number is left, it is such a mix.
    """
    rows = []
    for vector in vectors:
        rest, mix = vector, {vector: 1}
        for at, row, row_mix in rows:
            if rest[at] != 0:
                mix = cleared_mix(mix, row[at], row_mix, rest[at])
                rest = tuple([row[at] * number - rest[at] * more for number, more in zip(rest, row)])
        places = [at for at, number in enumerate(rest) if number != 0]
        if places and places[0] < len(rest) - 1:
            rows.append((places[0], rest, mix))
        elif places:
            return {key: mix[key] for key in mix if mix[key] != 0}
    return None


def cleared_mix(mix, times, other, less):
    """Tell some times a mix, less some times another one."""
    told = {key: times * mix[key] for key in mix}
    for key in other:
        told[key] = told.get(key, 0) - less * other[key]
    return told
