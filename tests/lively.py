"""Books whose givers do much, and what is done with them from outside: made out of a seed, the same at each run.

Names n and m mostly have numbers in them, b is told whether an ask was given, a whatever comes, and g, h and p mostly
have givers; now and then one stands for the other.
"""

import random

NUMBERS = ["n", "m"]
GIVERS = ["g", "h", "p"]
WORDS = ["close", "kind", "ring", "w"]
CAUGHT = WORDS + ["any", "any", "gives", "deep"]
RULES = ["main", "one", "two", "other"]
NONE = ("none",)
SIMPLE = (
    ["let"] * 3 + ["note"] * 3 + ["give"] * 8 + ["on"] * 5 + ["ask"] * 5 + ["cast"] * 2 + ["close"] + ["end"] + ["fault"]
)


class Lively:
    """Makes a book, and a row of deeds from outside."""

    def __init__(self, seed):
        self.chance = random.Random(seed)
        self.params, self.left, self.name, self.known = {}, 0, None, GIVERS

    def pick(self, things):
        return self.chance.choice(things)

    def seldom(self, times):
        """True once in so many times."""
        return self.chance.randrange(times) == 0

    def number_leaf(self):
        if self.seldom(20):
            return ("var", "a")
        return self.pick([("number", self.chance.randint(-1, 4)), ("var", self.pick(NUMBERS)), ("var", self.pick(NUMBERS))])

    def number(self):
        if self.seldom(30):
            return self.pick([NONE, ("var", self.pick(GIVERS)), ("number", 10 ** 30 - 1)])
        if self.seldom(2):
            return self.number_leaf()
        return ("op", self.pick("+-*<="), self.number_leaf(), self.number_leaf())

    def make(self):
        """Mostly one of a rule behind this one, so that not all is made without end."""
        names = list(self.params)
        behind = names[names.index(self.name) + 1:]
        name = self.pick(names if self.seldom(9) or not behind else behind)
        args = [("var", self.pick(self.known)) if param in GIVERS else self.number_leaf() for param in self.params[name]]
        return ("make", name, tuple(args))

    def giver(self):
        if self.seldom(30):
            return self.number()
        return self.make() if self.seldom(6) else ("var", self.pick(self.known))

    def worth(self):
        return self.giver() if self.seldom(4) else self.number()

    def let(self):
        if self.seldom(2):
            return ("let", self.pick(GIVERS), self.giver())
        return ("let", self.pick(NUMBERS), self.number())

    def simple(self, looped):
        word = self.pick(SIMPLE + ["leave"] * 3 * looped)
        x, y = self.pick(["a"] * 6 + GIVERS), "b"
        if word == "let":
            return self.let()
        return {
            "note": lambda: (word, self.worth()), "give": lambda: (word, x, self.worth()),
            "on": lambda: (word, "a", self.giver()), "ask": lambda: (word, x, y, self.giver(), self.worth()),
            "cast": lambda: (word, "a", y, self.giver(), self.pick(WORDS), self.worth()),
            "close": lambda: (word, self.giver()), "end": lambda: (word, self.worth()),
            "fault": lambda: (word, self.pick(WORDS), self.worth()), "leave": lambda: (word,),
        }[word]()

    def a_while(self, depth):
        """Mostly one that comes to its end: a number goes down by one each time."""
        if self.seldom(4):
            return ("while", self.pick([("number", 1), ("var", "b")]), self.block(depth + 1, True, 4))
        name = self.pick(NUMBERS)
        less = ("let", name, ("op", "-", ("var", name), ("number", 1)))
        self.left -= 1
        return ("while", ("op", "<", ("number", 0), ("var", name)), self.block(depth + 1, True, 3) + (less,))

    def a_try(self, depth, looped):
        block = self.block(depth + 1, looped, 3)
        catches = []
        for _ in range(self.chance.randrange(3)):
            if self.left > 1:
                catches.append((self.pick(CAUGHT), "a", self.block(depth + 1, looped, 2)))
        lasts = () if catches and self.seldom(4) else self.block(depth + 1, looped, 3)
        return ("try", block, tuple(catches), lasts)

    def deed(self, depth, looped):
        self.left -= 1
        word = self.pick(["simple"] * 5 + ["if", "while", "try", "try", "try"])
        if word == "simple" or depth == 5 or self.left < 5:
            return self.simple(looped)
        if word == "while":
            return self.a_while(depth)
        if word == "try":
            return self.a_try(depth, looped)
        elses = self.block(depth + 1, looped, 2) if self.seldom(2) else ()
        return ("if", self.pick([self.number(), ("var", "b")]), self.block(depth + 1, looped, 2), elses)

    def block(self, depth, looped, most):
        deeds = [self.deed(depth, looped)]
        many = self.chance.randint(1, most)
        while len(deeds) < many and self.left > 0:
            deeds.append(self.deed(depth, looped))
        return tuple(deeds)

    def rule(self, name):
        """Variables for numbers, and mostly one for givers, have some from the beginning."""
        self.name = name
        params = self.params[name]
        begins = [("let", n, ("number", self.chance.randint(1, 3))) for n in NUMBERS if n not in params]
        self.known = [param for param in params if param in GIVERS] or GIVERS
        if name != list(self.params)[-1] and not self.seldom(3):
            begins.append(("let", "h", self.make()))
            self.known = self.known + ["h"] if self.known != GIVERS else ["h"]
        # Some deeds more than are left may come, as each block has one.
        self.left = self.chance.randint(2, 16)
        if self.seldom(2):
            return (name, params, tuple(begins) + self.block(1, False, 9))
        return (name, params, tuple(begins) + (self.a_round(),) + self.block(1, False, 2))

    def a_round(self):
        """Gives, does something, takes what comes of it, and gives again: so the giver lives long."""
        self.left -= 4
        self.known = list(self.known) + ["g"] * ("g" not in self.known)
        catch = ("any", "a", (("note", ("var", "a")),))
        block = (("give", self.pick(["a", "g", "g"]), self.number()),) + self.block(3, True, 4)
        return ("while", ("number", 1), (("try", block, (catch,), self.pick([(), self.block(3, True, 2)])),))

    def book(self):
        for name in RULES[:self.chance.randint(1, 4)]:
            self.params[name] = tuple(self.chance.sample(NUMBERS + GIVERS, self.chance.randint(0, 3)))
        return tuple(self.rule(name) for name in self.params)

    def outside_giver(self, many):
        """Mostly one of those made first, so that some are asked often."""
        return self.chance.randrange(many if self.seldom(8) else min(many, 5))

    def outside_worth(self, many):
        sort = self.chance.randrange(10)
        if many and sort < 5:
            return ("giver", self.outside_giver(many))
        return NONE if sort == 5 else ("number", self.chance.randint(-1, 5))

    def making(self, many):
        """A giver to make, where there are so many already."""
        name = self.pick(list(self.params))
        worths = []
        for param in self.params[name]:
            worth = ("number", self.chance.randint(0, 4))
            if param in GIVERS:
                worth = ("giver", self.outside_giver(many)) if many else NONE
            worths.append(self.outside_worth(many) if self.seldom(9) else worth)
        return (name, tuple(worths))

    def asking(self, many):
        """An ask from outside, where there are so many givers."""
        worth = self.outside_worth(many)
        how = self.pick([("send", worth)] * 9 + [("fault", self.pick(WORDS), worth), ("close",)])
        return (self.outside_giver(many), how)


def most_of(seed):
    """A bound of steps for the hall of this seed."""
    return (300, 40, 12, 300, 5, 60)[seed % 6]
