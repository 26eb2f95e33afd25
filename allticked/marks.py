"""Marks: what must be kept of a row at a tick, so that a deed can meet a wish later on."""

from allticked.effects import is_change
from allticked.errors import BadEffect, NameInUse, NotThere, Quarrel
from allticked.keepings import Keeping
from allticked.lists import least_numbers
from allticked.names import LETTERS, is_name
from allticked.paths import STATES, earlier
from allticked.ready import check_moments
from allticked.stories import story_of_path
from allticked.wishes import known_wish, wishes_by, word_for
from allticked.worlds import words_now
from allticked.written import written


def demands(world, tick, done, must, never):
    """Tell for each pair of a state at tick and one at done what the wish says of it."""
    return demanded(wished(world, tick, done, must, never))


def quarrel(world, tick, done, must, never):
    """Tell the two first stories of the first pair that says "both", or None."""
    return quarrel_in(world, done, wished(world, tick, done, must, never))


def least_marks(world, tick, done, must, never):
    """List the fewest lists of states at tick such that to know the list of a row is enough."""
    told = wished(world, tick, done, must, never)
    two = quarrel_in(world, done, told)
    if two is not None:
        raise Quarrel(two[0], two[1])
    return lists_for(demanded(told))


def kept_for(world, tick, done, must, never, effect, *, eager=False):
    """Tell the keeping that meets a wish by marks at tick, which tell the lists apart, and one deed."""
    told = wished(world, tick, done, must, never)
    if "taken" in world.facts + world.moments:
        raise NameInUse("taken")
    if not is_change(effect, world.facts):
        raise BadEffect(effect)
    path = first_not_there(told)
    if path is not None:
        raise NotThere(story_of_path(stepless(world, done), path))
    two = quarrel_in(world, done, told)
    if two is not None:
        raise Quarrel(two[0], two[1])
    lists = lists_for(demanded(told))
    names = free_names(world, (len(lists) - 1).bit_length() if lists else 0)
    formula = formula_of_deed(world.facts, lists, names, demanded(told), eager)
    return Keeping(world, [*marks_for(world.facts, tick, lists, names), ("deed", done, "taken", formula, effect)])


def stepless(world, done):
    """Tell the keeping whose stories are asked: up to the deed, without steps."""
    return Keeping(world.until(done), [])


def wished(world, tick, done, must, never):
    """Tell for each pair of states, in order, the first paths in which must and never hold."""
    check_moments(world, tick, done)
    keeping = stepless(world, done)
    wish = known_wish(keeping, must, never)
    places = [world.moments.index(tick), world.moments.index(done)]
    words = [f"{word}@{moment}" for moment in (tick, done) for word in [*world.facts, "there"]]
    told = wishes_by(keeping, wish, words, lambda path: tuple([path[STATES][at] for at in places]))
    order = {state: at for at, state in enumerate(world.states)}
    return {pair: told[pair] for pair in sorted(told, key=lambda states: [order[state] for state in states])}


def demanded(told):
    """Tell the words for pairs, by the first paths in which must and never hold."""
    return {pair: word_for(told[pair]) for pair in told}


def quarrel_in(world, done, told):
    """Tell the two first stories of the first pair with both paths, or None."""
    for must, never in told.values():
        if must is not None and never is not None:
            keeping = stepless(world, done)
            return story_of_path(keeping, must), story_of_path(keeping, never)
    return None


def first_not_there(told):
    """Tell the first path in which must holds though the row is not there at done, or None."""
    first = None
    for (state, later), (must, never) in told.items():
        if later is None:
            first = earlier(must, first)
    return first


def lists_for(words):
    """List the fewest lists of states at tick, by the words for pairs."""
    states = list({state: True for state, later in words})
    unlike = [[at for at, other in enumerate(states) if are_unlike(words, state, other)] for state in states]
    numbers = least_numbers(unlike)
    many = max(numbers, default=-1) + 1
    return [[state for state, own in zip(states, numbers) if own == number] for number in range(many)]


def are_unlike(words, state, other):
    """Tell whether one of two states says "take" and one "leave" for some state at done."""
    said = [(words[pair], words.get((other, pair[1]))) for pair in words if pair[0] == state]
    return ("take", "leave") in said or ("leave", "take") in said


def free_names(world, many):
    """List as many names for marks as are needed, none of them in use."""
    used = [*world.facts, *world.moments, "taken"]
    names = [f"{one}{other}" for one in LETTERS for other in LETTERS]
    return [name for name in names if is_name(name) and name not in used][:many]


def names_of_list(number, names):
    """List the marks that hold of the rows of a list: the bits of its number."""
    return [name for at, name in enumerate(names) if number >> at & 1]


def marks_for(facts, tick, lists, names):
    """List the marks that tell the lists apart."""
    cases = [words_now(state) for states in lists for state in states]
    told = []
    for name in names:
        holding = [states for number, states in enumerate(lists) if name in names_of_list(number, names)]
        wanted = [words_now(state) for states in holding for state in states]
        told.append(("mark", tick, name, written([*facts, "there"], cases, wanted)))
    return told


def formula_of_deed(facts, lists, names, words, eager):
    """Tell the formula of the deed, by the list of a row and its state at done."""
    cases = []
    wanted = []
    for number, states in enumerate(lists):
        said = {}
        for state, later in words:
            if state in states:
                said.setdefault(later, []).append(words[(state, later)])
        for later in said:
            case = [*words_now(later), *names_of_list(number, names)]
            cases.append(case)
            if later is not None and ("leave" not in said[later] if eager else "take" in said[later]):
                wanted.append(case)
    return written([*facts, "there", *names], cases, wanted)
