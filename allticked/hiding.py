"""Hidden harm: what counts that agree can hide, and the papers for it.

Of stories that have the same numbers in all counts one is enough, and a harmed one where there
is one. So all questions are asked of vectors, of which there are few: a number for each count.
"""

from allticked.cones import dot, rays_of, weights_over
from allticked.counts import check_known, is_integer
from allticked.errors import BadSlack
from allticked.firsts import first_paths
from allticked.formulas import known_formula
from allticked.mixes import mix_to_last
from allticked.orders import subsets
from allticked.paths import STATES
from allticked.stories import story_of_path
from allticked.sums import best_sum, least_list


def hidden(keeping, harm, counts):
    """Tell the parts of a least list that agrees in all counts though a row of it is harmed, or None."""
    paths, harmed = kinds_of(keeping, harm, counts)
    if weights_over(harmed, len(counts)) is not None:
        return None
    vectors = {vector: vector for vector in paths}
    return parts_of(keeping, paths, least_list(vectors, [vector for vector in harmed if harmed[vector]]))


def weights(keeping, harm, counts):
    """Tell weights of the counts that show that lists which agree hide no harm, or None."""
    paths, harmed = kinds_of(keeping, harm, counts)
    return weights_over(harmed, len(counts))


def is_weights(keeping, harm, counts, thing):
    """Tell whether any object is such a list of weights."""
    paths, harmed = kinds_of(keeping, harm, counts)
    if not is_list_of_integers(thing, len(counts)):
        return False
    return all([dot(thing, vector) >= int(harmed[vector]) for vector in harmed])


def most(keeping, harm, counts, slack):
    """Tell the greatest number of harmed rows in a list that agrees about, and its parts, or None."""
    if not is_list_of_integers(slack, len(counts)) or any([number < 0 for number in slack]):
        raise BadSlack(slack)
    paths, harmed = kinds_of(keeping, harm, counts)
    weighing = weights_over(harmed, len(counts))
    if weighing is None:
        return None
    vectors = {vector: vector for vector in paths}
    gains = {vector: int(harmed[vector]) for vector in harmed}
    number, many = best_sum(vectors, gains, weighing, slack)
    return number, parts_of(keeping, paths, many)


def guards(keeping, harm, counts):
    """List the indexes of counts that alone are enough, so that none of them can be left out."""
    paths, harmed = kinds_of(keeping, harm, counts)
    told = []
    for row in subsets(list(range(len(counts)))):
        larger = any([all([at in row for at in guard]) for guard in told])
        if not larger and weights_over(seen_by(harmed, row), len(row)) is not None:
            told.append(list(row))
    return told


def unsettled(keeping, counts, count):
    """Tell the parts of a list that agrees in all counts and not in a further one, or None."""
    check_known(keeping, [*counts, count])
    many = len(counts)
    paths = {}
    for truths, path in first_paths(keeping, formulas_of([*counts, count])).items():
        paths[numbers_of([*counts, count], truths)] = path
    vectors = {key: key[:many] for key in paths}
    rays = rays_of(list({vectors[key]: True for key in vectors}), many)
    # What counts above 0 under some weights stands in no list that agrees.
    agreeing = {key: vectors[key] for key in vectors if not any([dot(ray, vectors[key]) for ray in rays])}
    mix = mix_to_last(list(agreeing))
    return None if mix is None else parts_of(keeping, paths, unsettling_list(agreeing, mix, many))


def kinds_of(keeping, harm, counts):
    """Tell for each vector of numbers a path, and whether it is harmed."""
    formula = known_formula(harm, keeping.words())
    check_known(keeping, counts)
    paths = {}
    harmed = {}
    for truths, path in first_paths(keeping, [formula, *formulas_of(counts)]).items():
        vector = numbers_of(counts, truths[1:])
        if vector not in paths or truths[0] and not harmed[vector]:
            paths[vector] = path
            harmed[vector] = truths[0]
    return paths, harmed


def formulas_of(counts):
    """List the formulas of counts."""
    return [formula for count in counts for formula, number in count.terms()]


def numbers_of(counts, truths):
    """Tell the numbers of counts, by which of their formulas hold."""
    told = []
    at = 0
    for count in counts:
        terms = count.terms()
        told.append(sum([number for (formula, number), holds in zip(terms, truths[at:]) if holds]))
        at = at + len(terms)
    return tuple(told)


def seen_by(harmed, row):
    """Tell the vectors with the numbers of some counts alone, and which of them are harmed."""
    told = {}
    for vector in harmed:
        shorter = tuple([vector[at] for at in row])
        told[shorter] = told.get(shorter, False) or harmed[vector]
    return told


def is_list_of_integers(thing, many):
    """Tell whether any object is a list of so many integers."""
    return isinstance(thing, (list, tuple)) and len(thing) == many and all([is_integer(one) for one in thing])


def unsettling_list(vectors, mix, many):
    """Make a list of a mix in which keys may stand less than 0 times; their last number is the further one's."""
    told = {key: 0 for key in vectors}
    for key in mix:
        told[key] = told[key] + mix[key]
        if mix[key] < 0:
            # Lists that agree are added until the key is there; they may do what is asked for by themselves.
            around = least_list(vectors, [key])
            if sum([around[other] * other[many] for other in around]) != 0:
                return around
            for other in around:
                told[other] = told[other] - mix[key] * around[other]
    return {key: told[key] for key in told if told[key] > 0}


def parts_of(keeping, paths, many):
    """List the parts of a list, by how often the paths of keys stand in it."""
    rows = sorted([(paths[key], many[key]) for key in many], key=lambda row: row[0][:STATES])
    return [(story_of_path(keeping, path), times) for path, times in rows]
