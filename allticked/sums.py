"""Sums: walks through the sums that the vectors of a list have, one vector behind the other.

FACT (Steinitz): vectors that sum up to 0, none of their numbers further from 0 than some reach,
can be put in such an order that no sum on the way is further from 0 than this reach times the
numbers in a vector. So walks within a box come to all that lists of any length can come to; where
a sum may be as far from 0 as a slack, what it lacks is such vectors, too, and the box is as much larger.
"""

from allticked.cones import dot


class Box:
    """The places of the sums whose numbers stand between a low and a high one each, one bit for each.

    Between the rows of places stand as many others, outside of the box, as one step can go too far.
    """

    def __init__(self, lows, highs, reaches):
        self.lows = lows
        self.strides = []
        self.inside = 1
        stride = 1
        for low, high, reach in zip(lows, highs, reaches):
            self.strides.append(stride)
            row = 0
            for at in range(high - low + 1):
                row = row | self.inside << at * stride
            self.inside = row
            stride = stride * (high - low + 1 + reach)

    def place(self, numbers):
        """Tell the place of a sum."""
        return sum([(number - low) * stride for number, low, stride in zip(numbers, self.lows, self.strides)])

    def shift(self, numbers):
        """Tell how far a vector leads from place to place."""
        return sum([number * stride for number, stride in zip(numbers, self.strides)])

    def moved(self, bits, shift):
        """Tell the places in the box that a shift leads to from others."""
        return (bits << shift if shift >= 0 else bits >> -shift) & self.inside


def reaches_of(vectors, many):
    """Tell how far from 0 each of the numbers of some vectors can be."""
    return [max([abs(vector[at]) for vector in vectors], default=0) for at in range(many)]


def rounds_from(box, moves, goal, last):
    """List for each cost, from 0 to the last, the rounds of places that walks first come to at this cost.

    A move is a triple: a shift, its cost from 0 on, and what it is told by. In a round stand the
    places that just one move without cost leads to from the round ahead of it. The list ends
    where a place of the goal, which is told by bits, is come to.
    """
    told = []
    unseen = box.inside
    for cost in range(last + 1):
        found = start_at(box, moves, told, cost) & unseen
        rounds = []
        while found:
            rounds.append(found)
            unseen = unseen ^ found
            found = joined_moves(box, [(found, shift) for shift, price, name in moves if price == 0]) & unseen
        told.append(rounds)
        if goal & unseen != goal:
            break
    return told


def start_at(box, moves, told, cost):
    """Tell the places that moves with a cost lead to at some cost in all; at none stands the sum 0."""
    if cost == 0:
        return 1 << box.place([0] * len(box.lows))
    pairs = [(found, shift) for shift, price, name in moves if 0 < price <= cost for found in told[cost - price]]
    return joined_moves(box, pairs)


def joined_moves(box, pairs):
    """Tell all places that are led to by pairs of places and a shift."""
    told = 0
    for bits, shift in pairs:
        told = told | box.moved(bits, shift)
    return told


def walk_to(moves, rounds, place):
    """Tell how often each move stands in a walk to a place that some round has."""
    told = {}
    cost, at = round_of(rounds, place)
    while cost > 0 or at > 0:
        cost, at, place, name = step_back(moves, rounds, cost, at, place)
        told[name] = told.get(name, 0) + 1
    return told


def round_of(rounds, place):
    """Tell the cost and the number of the round that has a place, or None."""
    for cost, row in enumerate(rounds):
        for at, bits in enumerate(row):
            if bits >> place & 1:
                return cost, at
    return None


def step_back(moves, rounds, cost, at, place):
    """Tell from where a move leads to a place: the cost, the round and the place there, and what tells the move."""
    for shift, price, name in moves:
        if price > cost or place < shift:
            continue
        row = rounds[cost - price] if price > 0 else rounds[cost][:at]
        for before, bits in enumerate(row):
            if bits >> (place - shift) & 1:
                return cost - price, before, place - shift, name
    return None


def least_list(vectors, marked):
    """Tell how often keys stand in a list that sums up to 0, has a marked key, and has as few vectors as possible.

    There must be such a list. The vectors stand in a dict, by their keys.
    """
    rows = list(vectors.values())
    many = len(rows[0])
    reaches = reaches_of(rows, many)
    highs = [many * reach for reach in reaches]
    # One number more tells whether a marked key was met.
    box = Box([*[-high for high in highs], 0], [*highs, 1], [*reaches, 1])
    moves = [(box.shift([*vectors[key], 0]), 1, key) for key in vectors]
    moves = moves + [(box.shift([*vectors[key], 1]), 1, key) for key in marked]
    goal = box.place([0] * many + [1])
    rounds = rounds_from(box, moves, 1 << goal, box.inside.bit_length())
    return walk_to(moves, rounds, goal)


def best_sum(vectors, gains, weights, slack):
    """Tell the most that a list can gain whose sum is no further from 0 than a slack, and how often keys stand in it.

    Each vector counts at least its gain under the weights. So a move costs what it counts more: a
    list gains what its sum counts, less its cost, and no list costs more than a sum can count.
    """
    many = len(slack)
    reaches = reaches_of(list(vectors.values()), many)
    highs = [many * reach + more for reach, more in zip(reaches, slack)]
    box = Box([-high for high in highs], highs, reaches)
    moves = [(box.shift(vectors[key]), dot(weights, vectors[key]) - gains[key], key) for key in vectors]
    rounds = rounds_from(box, moves, 0, sum([abs(weight) * more for weight, more in zip(weights, slack)]))
    places = sorted([(-dot(weights, numbers), box.place(numbers)) for numbers in all_within(slack)])
    best, goal = 0, box.place([0] * many)
    for cost, row in enumerate(rounds):
        come = joined_rounds(row)
        for less, place in places:
            if -less - cost > best and come >> place & 1:
                best, goal = -less - cost, place
    return best, walk_to(moves, rounds, goal)


def joined_rounds(row):
    """Tell all places of the rounds of one cost."""
    told = 0
    for bits in row:
        told = told | bits
    return told


def all_within(slack):
    """List all sums that are no further from 0 than a slack."""
    rows = [()]
    for more in slack:
        rows = [row + (number,) for row in rows for number in range(-more, more + 1)]
    return rows
