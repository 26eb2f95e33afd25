"""What events and deeds do to a row: change facts of it, or make it go; events let it come, too."""


def is_change(thing, facts):
    """Tell whether any object is an effect on a row that is there."""
    if isinstance(thing, dict):
        return all([fact in facts and isinstance(thing[fact], bool) for fact in thing])
    return isinstance(thing, str) and thing == "go"


def own_copy(effect):
    """Copy an effect, so that later changes to what was passed do nothing to it."""
    if isinstance(effect, dict):
        return {fact: effect[fact] for fact in effect}
    return effect if isinstance(effect, str) else tuple(effect)


def suits(effect, state):
    """Tell whether a state fits what an effect does: only a row that is not there can come."""
    return (state is None) == isinstance(effect, (list, tuple))


def state_behind(effect, state, facts):
    """Tell the state behind an effect that suits a state."""
    if isinstance(effect, str):
        return None
    if isinstance(effect, dict):
        return tuple([fact for fact in facts if effect.get(fact, fact in state)])
    return tuple([fact for fact in facts if fact in effect])
