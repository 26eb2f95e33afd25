"""Cones: the weights under which none of some vectors counts below 0, all in whole numbers.

All such weights are sums of rays, some of them perhaps often, and of lines, under which all of
the vectors count 0. Rays are kept by their zeros: one bit for each vector that counts 0.
"""


def dot(one, other):
    """Tell what a vector counts under weights."""
    return sum([number * weight for number, weight in zip(one, other)])


def rays_of(vectors, many):
    """List the rays of the weights for vectors of so many numbers, one for each least edge of the cone."""
    lines = [tuple([int(one == other) for one in range(many)]) for other in range(many)]
    rays = {}
    for at, vector in enumerate(vectors):
        leaning = [line for line in lines if dot(line, vector) != 0]
        if leaning:
            lines, rays = laid_flat(lines, rays, leaning[0], vector, 1 << at)
        else:
            rays = cut(rays, vector, 1 << at)
    return list(rays.values())


def laid_flat(lines, rays, line, vector, bit):
    """Tell lines and rays for one vector more, under which a line does not count 0: half of it is a ray now."""
    ray = line if dot(line, vector) > 0 else tuple([-number for number in line])
    flat = [mixed(other, ray, vector) for other in lines if other != line]
    told = {zeros | bit: mixed(rays[zeros], ray, vector) for zeros in rays}
    # On all vectors ahead of this one the line counts 0.
    told[bit - 1] = ray
    return flat, told


def cut(rays, vector, bit):
    """Tell the rays for one vector more: those that do not count below 0, and new ones between the others."""
    signs = {zeros: dot(rays[zeros], vector) for zeros in rays}
    told = {zeros | bit if signs[zeros] == 0 else zeros: rays[zeros] for zeros in rays if signs[zeros] >= 0}
    for above in rays:
        for below in rays:
            if signs[above] > 0 and signs[below] < 0:
                told[above & below | bit] = mixed(rays[below], rays[above], vector)
    return {zeros: told[zeros] for zeros in told if not any([zeros != more and zeros & more == zeros for more in told])}


def mixed(one, ray, vector):
    """Tell the least weights, between some and a ray that counts above 0, under which a vector counts 0."""
    own = dot(ray, vector)
    other = dot(one, vector)
    return least([own * number - other * weight for number, weight in zip(one, ray)])


def least(numbers):
    """Divide numbers by all that divides each of them."""
    divisor = 0
    for number in numbers:
        rest = abs(number)
        while rest:
            divisor, rest = rest, divisor % rest
    return tuple([number // divisor if divisor else number for number in numbers])


def weights_over(harmed, many):
    """Tell weights under which vectors do not count below 0, and harmed ones above 0, or None.

    The vectors stand in a dict that tells which of them are harmed.
    """
    rays = rays_of(list(harmed), many)
    told = [0] * many
    for vector in harmed:
        if harmed[vector] and dot(told, vector) == 0:
            helping = [ray for ray in rays if dot(ray, vector) > 0]
            if not helping:
                return None
            told = [number + more for number, more in zip(told, helping[0])]
    return told
