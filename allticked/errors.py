"""The errors of the package. Each keeps what it was created with, and makes no text of it.

So an error can be created from any values, also from those that no text can be made of.
"""


class TickError(ValueError):
    """The base of all errors of the package."""


class BadName(TickError):
    """A thing is no name, or stood before where names must be unlike."""

    def __init__(self, name):
        self.name = name


class BadFormula(TickError):
    """A thing is no formula."""

    def __init__(self, text):
        self.text = text


class NoWord(TickError):
    """A formula has a word that is not known there."""

    def __init__(self, word):
        self.word = word


class BadCount(TickError):
    """There are not as many of something as there must be."""

    def __init__(self, count):
        self.count = count


class BadEvent(TickError):
    """A thing in a list of events is no event that can stand there."""

    def __init__(self, index):
        self.index = index


class BadSpan(TickError):
    """A key of spans is no later moment, or its value no list of events."""

    def __init__(self, moment):
        self.moment = moment


class BadState(TickError):
    """A thing is no state, or none that can stand there."""

    def __init__(self, state):
        self.state = state


class NoEvent(TickError):
    """A thing is the name of no event, or of none that can stand there."""

    def __init__(self, event):
        self.event = event


class NoMoment(TickError):
    """A thing is no moment, or none that can stand there."""

    def __init__(self, moment):
        self.moment = moment


class BadStep(TickError):
    """A thing in a list of steps is no step that can stand there."""

    def __init__(self, index):
        self.index = index


class NoStep(TickError):
    """A thing is the name of no step, or of none that is asked for."""

    def __init__(self, name):
        self.name = name


class BadEffect(TickError):
    """A thing is no effect."""

    def __init__(self, effect):
        self.effect = effect


class UnlikeWorlds(TickError):
    """Two keepings stand over worlds that are not equal."""


class UnlikeDeeds(TickError):
    """Two deeds differ in moment or effect, or may be stopped."""


class NameInUse(TickError):
    """A name is needed that stands for something else."""

    def __init__(self, name):
        self.name = name


class NotThere(TickError):
    """A row has to be taken that is not there."""

    def __init__(self, story):
        self.story = story


class Quarrel(TickError):
    """Two stories want unlike things of what no mark can tell apart."""

    def __init__(self, one, other):
        self.one = one
        self.other = other


class BadNumber(TickError):
    """A thing is no integer."""

    def __init__(self, number):
        self.number = number


class BadSlack(TickError):
    """A thing is no list of slacks, one for each count."""

    def __init__(self, slack):
        self.slack = slack


class NoView(TickError):
    """A thing is no view that a row can bring to the deed."""

    def __init__(self, view):
        self.view = view


class BadTruth(TickError):
    """A thing is no truth value."""

    def __init__(self, taken):
        self.taken = taken


class Contradiction(TickError):
    """The other was taken in for a view."""

    def __init__(self, view):
        self.view = view


class NoName(TickError):
    """A thing is the name of no row."""

    def __init__(self, name):
        self.name = name


class CannotHappen(TickError):
    """A thing is no event that can happen to the row now."""

    def __init__(self, event):
        self.event = event


class NotDone(TickError):
    """The last moment has not begun."""

    def __init__(self, moment):
        self.moment = moment
