"""The looker told a second time, in another way: rows are taken one by one where they are due, asks within asks as calls
within calls, and the form of a row is a pattern of how Python shows it."""

import re

from handedon.books import rule_of
from handedon.places import deed_at, stands_of, tries_of

NONE = ("none",)
GIVER = "[1-9]?[0-9]"
TRY = "[12]?[0-9]"
WORTH = rf"(?:\('none',\)|\('number', (?:0|-?[1-9][0-9]{{0,29}})\)|\('giver', {GIVER}\))"
WORD = "'(?!any')[a-z]{1,8}'"
FAULT = rf"\('fault', {WORD}, {WORTH}\)"
HOW = rf"(?:\('send', {WORTH}\)|{FAULT}|\('close',\))"
ANSWER = rf"(?:\('(?:given|ended)', {WORTH}\)|{FAULT}|\('closed',\))"
LEAN = rf"\({GIVER}, '(?:on|ask)'\)"
RING = rf"\({LEAN}(?:,|(?:, {LEAN})+)\)"
FORMS = {
    "asked": (GIVER, HOW), "begin": (GIVER,), "note": (GIVER, WORTH), "try": (GIVER, TRY), "last": (GIVER, TRY),
    "give": (GIVER, WORTH), "on": (GIVER, GIVER), "back": (GIVER, WORTH), "hit": (GIVER, WORD, WORTH),
    "ask": (GIVER, GIVER, HOW), "told": (GIVER, ANSWER), "ring": (GIVER, RING), "end": (GIVER, WORTH),
    "out": (GIVER, WORD, WORTH), "answered": (ANSWER,),
}
ROW = re.compile("|".join(rf"\('{word}', {', '.join(parts)}{',' * (not parts)}\)" for word, parts in FORMS.items()))


class Amiss(Exception):
    pass


class Look:
    """A look at a record."""

    def __init__(self, book, kept, rows):
        self.rows, self.at = rows, 0
        self.begun, self.ended, self.inner, self.tries = set(), set(), {}, {k: [] for k in range(100)}
        self.asking, self.depth = {}, 0
        for k, (name, state, worths) in enumerate(kept):
            if state[0] == "ended":
                self.ended.add(k)
            elif state[0] == "stands":
                self.begun.add(k)
                self.tries[k] = tries_at(rule_of(book, name), state[1])
                if state[3] is not None:
                    self.inner[k] = state[3]

    def take(self):
        """The next row."""
        if self.at == len(self.rows) or not ROW.fullmatch(repr(self.rows[self.at])):
            raise Amiss
        self.at += 1
        return self.rows[self.at - 1]

    def need(self, *row):
        if repr(self.take()) != repr(row):
            raise Amiss

    def whole(self):
        while self.at < len(self.rows):
            word, k, *rest = self.take() + (None,)
            if word != "asked":
                raise Amiss
            self.need("answered", self.ask(k, rest[0]))

    def chain(self, k):
        return [k] + self.chain(self.inner[k]) if k in self.inner else [k]

    def ask(self, k, how):
        self.depth += 1
        told = self.along(self.chain(k), ("fault", "close", NONE) if how == ("close",) else how)
        self.depth -= 1
        if how != ("close",):
            return told
        if told[0] == "given":
            return ("fault", "gives", NONE)
        return ("closed",) if told[0] == "ended" or told[1] == "close" else told

    def along(self, line, how):
        told = self.met(line, how)
        while told[0] != "given":
            line.pop()
            if not line:
                break
            k = line[-1]
            self.need("hit" if told[0] == "fault" else "back", k, *told[1:])
            del self.inner[k]
            told = self.run(line)
        return told

    def met(self, line, how):
        k = line[-1]
        if k in self.ended:
            return ("ended", NONE) if how[0] == "send" else how
        if k in self.begun:
            return self.run(line)
        if how[0] == "fault":
            self.need("out", k, *how[1:])
            self.ended.add(k)
            return how
        self.need("begin", k)
        self.begun.add(k)
        return self.run(line)

    def rings(self, k, word):
        """All rings that may come of k, which runs, by this word: whoever it would lean on."""
        found = []
        for g in range(100):
            ring, at = [(k, word)], g
            while at is not None and at != k:
                ring.append((at, "on" if at in self.inner else "ask"))
                at = self.inner.get(at, self.asking.get(at))
            if at is not None:
                found.append((g, tuple(ring)))
        return found

    def run(self, line):
        """Rows of the line's end, till something comes of it."""
        while True:
            k = line[-1]
            word, who, *rest = self.take() + (None,)
            if who != k:
                raise Amiss
            tries = self.tries[k]
            if word == "try" and rest[0] not in tries:
                tries.append(rest[0])
            elif word == "last" and tries[-1:] == rest[:1]:
                tries.pop()
            elif word == "give":
                return ("given", rest[0])
            elif word in ("end", "out") and not tries:
                self.ended.add(k)
                return ("ended", rest[0]) if word == "end" else ("fault", *rest[:2])
            elif word == "ring" and rest[0] in [ring for w in ("on", "ask") for g, ring in self.rings(k, w)]:
                pass
            elif word == "on" and rest[0] not in [g for g, ring in self.rings(k, "on")]:
                self.inner[k] = rest[0]
                line.extend(self.chain(rest[0]))
                return self.met(line, ("send", NONE))
            elif word == "ask" and self.depth < 12 and rest[0] not in [g for g, ring in self.rings(k, "ask")]:
                self.asking[k] = rest[0]
                self.need("told", k, self.ask(rest[0], rest[1]))
                del self.asking[k]
            elif word != "note":
                raise Amiss


def tries_at(rule, stand):
    """The numbers of the tries that are open at the stand, outermost first."""
    place = stands_of(rule)[stand - 1]
    found = []
    for many in range(1, len(place), 2):
        outer = place[:many]
        deed = deed_at(rule, outer)
        if outer in tries_of(rule) and place[many] <= len(deed[2]):
            found.append(tries_of(rule).index(outer))
    return found


def second_look(book, kept, thing):
    """Whether the thing is let by from the kept tuple on."""
    if type(thing) is not tuple:
        return False
    try:
        Look(book, kept, thing).whole()
    except Amiss:
        return False
    return True
