"""What lists of rows can hide, told plainly: by walks through the sums that lists can have.

A row is told by its numbers, a tuple, and by whether it is harmed. The sums are kept within a box
that is larger than the program's own.
"""

import itertools


def steps_within(rows, reach):
    """Return a function that tells where rows lead to from a sum, as long as no number is further from 0 than the reach."""
    def steps(numbers):
        for row in rows:
            behind = tuple(one + other for one, other in zip(numbers, row))
            if all(abs(number) <= reach for number in behind):
                yield row, behind
    return steps


def reach_of(rows, more=0):
    many = max((len(row) for row in rows), default=0)
    return 2 * many * max((abs(number) for row in rows for number in row), default=0) + more + 1


def fewest_rows(harmed, many):
    """Return how many rows a least list has that agrees though a row of it is harmed, or None."""
    steps = steps_within(list(harmed), reach_of(harmed))
    begin, goal = ((0,) * many, False), ((0,) * many, True)
    far = {begin: 0}
    rim = [begin]
    while rim:
        found = []
        for numbers, met in rim:
            for row, behind in steps(numbers):
                place = (behind, met or harmed[row])
                if place not in far:
                    far[place] = far[(numbers, met)] + 1
                    found.append(place)
        rim = found
    return far.get(goal)


def most_harmed(harmed, many, slack):
    """Return how many harmed rows a list can have that agrees about; there must be a greatest number."""
    steps = steps_within(list(harmed), reach_of(harmed, max(slack, default=0)))
    best = {(0,) * many: 0}
    rim = list(best)
    while rim:
        found = {}
        for numbers in rim:
            for row, behind in steps(numbers):
                if best[numbers] + harmed[row] > best.get(behind, -1):
                    best[behind] = best[numbers] + harmed[row]
                    found[behind] = True
        rim = list(found)
    return max(number for numbers, number in best.items() if all(abs(one) <= other for one, other in zip(numbers, slack)))


def have_weights(harmed, many, largest):
    """Tell whether there are weights, none of them further from 0 than the largest."""
    for weights in itertools.product(range(-largest, largest + 1), repeat=many):
        sums = {row: sum(number * weight for number, weight in zip(row, weights)) for row in harmed}
        if all(sums[row] >= harmed[row] for row in harmed):
            return True
    return False


def least_guards(harmed, many):
    """Return the least lists of indexes that alone hide nothing."""
    told = []
    for size in range(many + 1):
        for guard in itertools.combinations(range(many), size):
            if any(set(other) <= set(guard) for other in told):
                continue
            shorter = {}
            for row in harmed:
                key = tuple(row[at] for at in guard)
                shorter[key] = shorter.get(key, False) or harmed[row]
            if fewest_rows(shorter, size) is None:
                told.append(list(guard))
    return told


def is_unsettled(rows, many, furthest):
    """Tell whether a list agrees in all numbers but the last, which stays within the furthest on the way."""
    steps = steps_within([row[:many] for row in rows], reach_of([row[:many] for row in rows]))
    further = {}
    for row in rows:
        further.setdefault(row[:many], {})[row[many]] = True
    begin = ((0,) * many, 0)
    met = {begin: True}
    rim = [begin]
    while rim:
        numbers, last = rim.pop()
        for row, behind in steps(numbers):
            for more in further[row]:
                place = (behind, last + more)
                if behind == (0,) * many and place[1] != 0:
                    return True
                if abs(place[1]) <= furthest and place not in met:
                    met[place] = True
                    rim.append(place)
    return False
