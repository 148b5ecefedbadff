"""What both halls have in common: their givers, the asks from outside, and what is told of them."""

from handedon.asks import is_how, run_ask
from handedon.books import is_book, rule_of
from handedon.deeds import MOST_GIVERS
from handedon.errors import Full, NoAsk, NoBook, NoGiver, NoMost, NoWorth
from handedon.givers import copied, kept_giver, new_giver, state_told, worths_held
from handedon.worths import is_below, is_whole, is_worth

MOST_MOST = 300


def is_most(thing):
    """Whether the thing is a bound of steps."""
    return is_whole(thing) and 1 <= thing <= MOST_MOST


def are_worths(thing, count, many):
    """Whether the thing is a tuple of so many worths, giver's numbers in them below many."""
    if not isinstance(thing, tuple) or len(thing) != count:
        return False
    return all([is_worth(part, many) for part in thing])


def chain_of(givers, k):
    """The chain of giver k: it, and each to whom the one ahead hands on."""
    chain = [k]
    inner = givers[k].inner
    while inner is not None:
        chain.append(inner)
        inner = givers[inner].inner
    return chain


class Hall:
    """A hall, but for how its givers run and how the ends of chains are found.

    Each kind of hall has these two: giver_run(giver, way), which runs the giver until something comes of it that
    handedon.asks names; and chain_found(k), which tells the chain of giver k, and counts the hops of this find.
    """

    def __init__(self, book, most):
        if not is_book(book):
            raise NoBook("no book")
        if not is_most(most):
            raise NoMost("no bound of steps")
        self.book = book
        self.most = most
        self.givers = []
        self.rows = []
        self.counted = 0
        self.hopped = 0
        self.left = 0
        self.midst = []

    def make(self, name, worths):
        """Makes a giver of the rule of this name, with a worth for each param; tells its number."""
        rule = rule_of(self.book, name)
        if not are_worths(worths, len(rule[1]), self.many()):
            raise NoWorth("not a worth for each param")
        if self.many() == MOST_GIVERS:
            raise Full("the hall is full")
        return self.giver_added(rule, worths)

    def giver_added(self, rule, worths):
        """Adds a new giver of the rule, for whom there is room; tells its number."""
        self.givers.append(new_giver(self.many(), rule, worths))
        return self.many() - 1

    def giver_at(self, k):
        """The giver of this number, or NoGiver."""
        if not is_below(k, self.many()):
            raise NoGiver("no giver of this number")
        return self.givers[k]

    def ask(self, k, how):
        """Asks giver k; tells the answer."""
        self.giver_at(k)
        if not is_how(how, self.many()):
            raise NoAsk("no way to ask")
        saved = self.all_saved()
        self.left = self.most
        came = run_ask(self, k, how)
        if came[0] == "stopped":
            self.put_back(saved)
            return came
        return came[1]

    def step_counted(self):
        """Counts a step of the ask; where it would be one too many, False is told."""
        if self.left == 0:
            return False
        self.left -= 1
        self.counted += 1
        return True

    def all_saved(self):
        """All that an ask may change, to be put back where it is stopped."""
        return ([copied(giver) for giver in self.givers], len(self.rows), self.counted, self.hopped)

    def put_back(self, saved):
        """Makes all as it was when it was saved."""
        givers, rows, counted, hopped = saved
        self.givers = givers
        self.rows = self.rows[:rows]
        self.counted = counted
        self.hopped = hopped
        self.midst = []

    def state(self, k):
        """The state of giver k."""
        return state_told(self.giver_at(k))

    def worths(self, k):
        """The worths of giver k's variables, in their order."""
        return worths_held(self.giver_at(k))

    def chain(self, k):
        """The chain of giver k."""
        self.giver_at(k)
        return chain_of(self.givers, k)

    def many(self):
        """How many givers there are."""
        return len(self.givers)

    def steps(self):
        """How many steps were counted in asks that weren't stopped."""
        return self.counted

    def hops(self):
        """How many hops all finds took."""
        return self.hopped

    def record(self):
        """The record of all asks that weren't stopped."""
        return tuple(self.rows)

    def keep(self):
        """The hall as it is kept."""
        return tuple([kept_giver(giver) for giver in self.givers])
