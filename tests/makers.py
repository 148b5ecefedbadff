"""Books made by a row of numbers that is the same at each run: each sort of deed, block and expression comes up."""

import random

NAMES = ["a", "b", "got", "more", "n", "p", "q", "ringing", "variable", "x", "y", "zzzzzzzz"]
RULES = ["count", "f", "givers", "hander", "main", "rules", "tries", "whiles"]
WORDS = ["close", "deep", "full", "great", "if", "kind", "ring", "w"]
NUMBERS = [0, 1, -1, 7, -30, 10 ** 29, 10 ** 30 - 1, 1 - 10 ** 30]
SIMPLE = ["let", "note", "give", "on", "ask", "cast", "close", "end", "fault"]


class Maker:
    """Makes books out of a seed."""

    def __init__(self, seed):
        self.chance = random.Random(seed)
        self.counts = {}
        self.left = 0

    def pick(self, things):
        return self.chance.choice(things)

    def leaf(self):
        return self.pick([("none",), ("number", self.pick(NUMBERS)), ("var", self.pick(NAMES))])

    def tree(self, depth, left):
        """An expression at most so deep, and how many tuples are left of those it might have."""
        sort = self.pick(["leaf", "op", "op", "make"])
        name = self.pick(list(self.counts))
        many = 2 if sort == "op" else self.counts[name]
        if depth == 1 and (sort == "op" or many > 0) or left <= many or sort == "leaf":
            return self.leaf(), left - 1
        parts = []
        left -= 1
        for behind in range(many - 1, -1, -1):
            part, left = self.tree(depth - 1, left - behind)
            left += behind
            parts.append(part)
        if sort == "make":
            return ("make", name, tuple(parts)), left
        return ("op", self.pick("+-*<="), *parts), left

    def expression(self):
        return self.tree(self.chance.randint(1, 4), 9)[0]

    def simple(self, looped):
        word = self.pick(SIMPLE + ["leave"] * 2 * looped)
        x, y, e, g = self.pick(NAMES), self.pick(NAMES), self.expression(), self.expression()
        caught = self.pick(WORDS)
        return {
            "let": (word, x, e), "note": (word, e), "give": (word, x, e), "on": (word, x, e), "ask": (word, x, y, g, e),
            "cast": (word, x, y, g, caught, e), "close": (word, g), "end": (word, e), "fault": (word, caught, e),
            "leave": (word,),
        }[word]

    def some(self, depth, looped):
        return self.block(depth + 1, looped, self.chance.randint(1, 3))

    def rest(self, depth, looped):
        return self.some(depth, looped) if self.left > 0 and self.chance.random() < 0.5 else ()

    def deed(self, depth, looped):
        self.left -= 1
        word = self.pick(["simple", "simple", "if", "while", "try", "try"])
        if word == "simple" or depth == 5 or self.left < 2:
            return self.simple(looped)
        if word == "while":
            return ("while", self.expression(), self.some(depth, True))
        # Kept back for the one deed that a try's catch or lasts need.
        self.left -= 1
        block = self.some(depth, looped)
        if word == "if":
            self.left += 1
            return ("if", self.expression(), block, self.rest(depth, looped))
        catches = []
        for _ in range(self.chance.randint(0, 3)):
            if self.left > 0:
                catches.append((self.pick(WORDS + ["any"]), self.pick(NAMES), self.some(depth, looped)))
        self.left += 1
        if catches:
            return ("try", block, tuple(catches), self.rest(depth, looped))
        return ("try", block, (), self.some(depth, looped))

    def block(self, depth, looped, most):
        deeds = [self.deed(depth, looped)]
        while len(deeds) < most and self.left > 0:
            deeds.append(self.deed(depth, looped))
        return tuple(deeds)

    def book(self):
        names = self.chance.sample(RULES, self.chance.randint(1, 8))
        self.counts = {name: self.chance.randint(0, 3) for name in names}
        rules = []
        for name in names:
            self.left = self.chance.randint(1, 30)
            params = tuple(self.chance.sample(NAMES, self.counts[name]))
            rules.append((name, params, self.block(1, False, 9)))
        return tuple(rules)


def books(many):
    """So many books, the same at each run."""
    return [Maker(seed).book() for seed in range(many)]
