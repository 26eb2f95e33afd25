"""Steps of a keeping: how marks and deeds are told, and what becomes of a row by them.

A row is told here by a triple: its state, the names of the steps that hold of it, and the
deeds at which a stop left it out, both in the order of the steps.
"""

from allticked.effects import is_change, own_copy, state_behind
from allticked.errors import BadFormula, NoWord
from allticked.formulas import known_formula
from allticked.names import is_name
from allticked.worlds import words_now


def read_step(thing, world, earlier):
    """Tell the step that any object is behind some earlier ones, as a tuple, or None."""
    if not isinstance(thing, (list, tuple)) or len(thing) < 4:
        return None
    kind, moment, name, formula, *more = thing
    if not is_kind(kind, more, world.facts) or not can_come(moment, world.moments, earlier):
        return None
    if not is_name(name) or name in [*world.facts, *world.moments, *names_of(earlier)]:
        return None
    try:
        known = known_formula(formula, words_for(world, earlier))
    except (BadFormula, NoWord):
        return None
    return (kind, moment, name, known, *[own_copy(part) for part in more])


def is_kind(kind, more, facts):
    """Tell whether a step is a mark or a deed, by its kind and what stands behind its formula."""
    if kind == "mark":
        return more == []
    return kind == "deed" and more != [] and is_change(more[0], facts) and more[1:] in ([], ["stops"])


def can_come(moment, moments, earlier):
    """Tell whether a step can stand at a moment behind earlier ones."""
    return moment in moments and not (earlier and moments.index(moment) < moments.index(earlier[-1][1]))


def names_of(steps):
    """List the names of some steps."""
    return [step[2] for step in steps]


def words_for(world, earlier):
    """List the words that the formula of a step can have behind earlier ones."""
    return [*world.facts, "there", *names_of(earlier)]


def ends_of(step, row, facts):
    """List what a step can make of a row: first as it does without a stop, then as it does with one."""
    kind, moment, name, formula, *more = step
    state, held, left_out = row
    if not formula.holds([*words_now(state), *held]):
        return [row]
    if kind == "mark":
        return [(state, held + (name,), left_out)]
    if state is None:
        return [row]
    taken = (state_behind(more[0], state, facts), held + (name,), left_out)
    return [taken] if len(more) == 1 else [taken, (state, held, left_out + (name,))]


def steps_at(keeping, moment):
    """List the steps of a moment."""
    return [step for step in keeping.steps if step[1] == moment]


def ends_at(keeping, moment, state, held):
    """List all that the steps of a moment can make of a row."""
    rows = [(state, held, ())]
    for step in steps_at(keeping, moment):
        rows = [end for row in rows for end in ends_of(step, row, keeping.world.facts)]
    return rows


def end_at(keeping, moment, state, held, left):
    """Tell what the steps of a moment make of a row that is to be left out at some deeds with stops."""
    row = (state, held, ())
    for step in steps_at(keeping, moment):
        ends = ends_of(step, row, keeping.world.facts)
        row = ends[-1] if step[2] in left else ends[0]
    return row
