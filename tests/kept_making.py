"""Kept halls put together by chance, whether a run comes there or not; and which things are kept ones, told a second time
by patterns of how Python shows them."""

import random
import re

from handedon.books import variables
from handedon.places import deed_at, stands_of

NONE = ("none",)
WORDS = ["w", "close", "ring", "kind", "gives"]
WORTH = r"(?:\('none',\)|\('number', (?:0|-?[1-9][0-9]{0,29})\)|\('giver', (?:0|[1-9][0-9]*)\))"
WORD = r"'(?!any')[a-z]{1,8}'"


def lasts_at(rule, place):
    """For each try in whose lasts the place is, outermost first, whether a while is around that try."""
    found, looped = [], False
    for many in range(1, len(place), 2):
        deed = deed_at(rule, place[:many])
        if deed[0] == "try" and place[many] == len(deed[2]) + 1:
            found.append(looped)
        looped = looped or deed[0] == "while"
    return found


def shown(parts):
    """A pattern of a tuple of these parts."""
    return rf"\({', '.join(parts)}{',' * (len(parts) == 1)}\)"


def giver_pattern(rule):
    """A pattern of how Python shows a kept giver of the rule."""
    worths = shown([WORTH] * len(variables(rule)))
    states = [r"\('new',\)"]
    for at, place in enumerate(stands_of(rule)):
        pendings = []
        for looped in lasts_at(rule, place):
            leave = r"|\('leave',\)" if looped else ""
            pendings.append(rf"(?:\('go',\)|\('end', {WORTH}\)|\('fault', {WORD}, {WORTH}\){leave})")
        inner = "None" if deed_at(rule, place)[0] == "give" else "(?:0|[1-9][0-9]*)"
        states.append(rf"\('stands', {at + 1}, {shown(pendings)}, {inner}\)")
    return rf"\('{rule[0]}', (?:\('ended',\), \(\)|(?:{'|'.join(states)}), {worths})\)"


def second_is_kept(book, thing):
    """Whether the thing, whatever it is, is a kept hall for the book."""
    if type(thing) is not tuple or len(thing) > 100:
        return False
    pattern = re.compile("|".join(giver_pattern(rule) for rule in book))
    inner = {}
    for k, part in enumerate(thing):
        text = repr(part)
        if not pattern.fullmatch(text):
            return False
        if any(int(number) >= len(thing) for number in re.findall(r"\('giver', ([0-9]+)\)", text)):
            return False
        if part[1][0] == "stands" and part[1][3] is not None:
            inner[k] = part[1][3]
    if any(g >= len(thing) for g in inner.values()):
        return False
    while inner:
        # Who hands on to one that hands on no more is taken away; where all hand on, there is a ring.
        ends = [k for k, g in inner.items() if g not in inner]
        if not ends:
            return False
        for k in ends:
            del inner[k]
    return True


class KeptMaker:
    """Puts kept halls for a book together."""

    def __init__(self, book, seed):
        self.book, self.chance = book, random.Random(seed)

    def worth(self, many):
        sort = self.chance.randrange(3)
        if many and sort == 0:
            return ("giver", self.chance.randrange(many))
        return NONE if sort == 1 else ("number", self.chance.randint(-1, 3))

    def pending(self, looped, many):
        worth, word = self.worth(many), self.chance.choice(WORDS)
        return self.chance.choice([("go",), ("end", worth), ("fault", word, worth)] + [("leave",)] * looped)

    def stood(self, rule, stand, many, behind):
        """The state at this stand; behind are those to whom it may hand on."""
        place = stands_of(rule)[stand - 1]
        pendings = tuple(self.pending(looped, many) for looped in lasts_at(rule, place))
        inner = None if deed_at(rule, place)[0] == "give" else self.chance.choice(behind)
        return ("stands", stand, pendings, inner)

    def state(self, rule, many, behind):
        stands = [at + 1 for at, place in enumerate(stands_of(rule)) if behind or deed_at(rule, place)[0] == "give"]
        if not stands or self.chance.randrange(6) == 0:
            return self.chance.choice([("new",), ("ended",)])
        return self.stood(rule, self.chance.choice(stands), many, behind)

    def giver(self, rule, state, many):
        worths = () if state == ("ended",) else tuple(self.worth(many) for name in variables(rule))
        return (rule[0], state, worths)

    def kept(self, many):
        """So many givers."""
        order = list(range(many))
        self.chance.shuffle(order)
        givers = {}
        for at, k in enumerate(order):
            rule = self.chance.choice(self.book)
            givers[k] = self.giver(rule, self.state(rule, many, order[at + 1:]), many)
        return tuple(givers[k] for k in range(many))

    def each_stand(self):
        """For each stand of each rule a kept hall with one giver there, and one new and one ended behind it."""
        for rule in self.book:
            for at in range(len(stands_of(rule))):
                other = self.chance.choice(self.book)
                yield (self.giver(rule, self.stood(rule, at + 1, 3, [1, 2]), 3), self.giver(other, ("new",), 3),
                       (other[0], ("ended",), ()))
