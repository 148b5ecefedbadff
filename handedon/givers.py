"""Givers: what a hall holds of each, and what is told of it."""

from handedon.books import variables
from handedon.places import stands_of
from handedon.worths import NONE


class Giver:
    """A giver of a hall: its number and rule, the worths that its variables hold, and how far it has come.

    Its phase is new, begun or ended. Begun, it is at the deed at `place`, and, where it runs by a code, at the row of
    number `row`; its pendings are what is to come when the lasts around that are through, outermost first; inner is the
    number of the giver to which it hands on, or None. By how often it has `handed` on one handing on is told from
    another; links are what a machine's hall keeps of its chain.
    """

    def __init__(self, number, rule, held):
        self.number = number
        self.rule = rule
        self.held = held
        self.phase = "new"
        self.place = None
        self.row = None
        self.pendings = ()
        self.inner = None
        self.handed = 0
        self.links = ()


def new_giver(number, rule, worths):
    """A new giver of the rule, made of a worth for each param."""
    held = {name: NONE for name in variables(rule)}
    for name, worth in zip(rule[1], worths):
        held[name] = worth
    return Giver(number, rule, held)


def giver_from(number, rule, state, worths):
    """A giver of the rule as it was kept, in this state with these worths."""
    giver = Giver(number, rule, dict(zip(variables(rule), worths)))
    giver.phase = state[0]
    if state[0] == "stands":
        giver.phase = "begun"
        giver.place = stands_of(rule)[state[1] - 1]
        giver.pendings = state[2]
        giver.inner = state[3]
    return giver


def copied(giver):
    """Another giver, which is as this one is now."""
    other = Giver(giver.number, giver.rule, dict(giver.held))
    other.phase = giver.phase
    other.place = giver.place
    other.row = giver.row
    other.pendings = giver.pendings
    other.inner = giver.inner
    other.handed = giver.handed
    other.links = giver.links
    return other


def end_giver(giver):
    """Ends the giver, which hands on to none: nothing is held of how far it had come."""
    giver.held = {}
    giver.phase = "ended"
    giver.place = None
    giver.row = None
    giver.pendings = ()


def stand_number(giver):
    """The number of the stand at which the giver is."""
    return stands_of(giver.rule).index(giver.place) + 1


def state_told(giver):
    """The state of a giver that isn't in the midst of running."""
    if giver.phase != "begun":
        return (giver.phase,)
    if giver.inner is None:
        return ("gives", stand_number(giver))
    return ("hands on", stand_number(giver), giver.inner)


def worths_held(giver):
    """The worths of the giver's variables, in their order; none of an ended one."""
    return tuple(giver.held.values())


def kept_giver(giver):
    """What is kept of a giver that isn't in the midst of running."""
    state = (giver.phase,)
    if giver.phase == "begun":
        state = ("stands", stand_number(giver), giver.pendings, giver.inner)
    return (giver.rule[0], state, worths_held(giver))
