"""Whether a thing is a code of a rule, clause by clause: what is amiss is told as an error of the test.

Of whatever thing the form is told a second time, in another way: by patterns of how Python shows it.
"""

import re
import unittest

from handedon.goes import behind, end_goes, fault_goes, leave_goes
from handedon.places import deed_at, places, stands_of, tries_of

WORDS = {
    "let": "deed", "note": "deed", "ask": "deed", "cast": "deed", "close": "deed", "give": "stand", "on": "stand",
    "if": "test", "while": "test", "try": "open", "end": "end", "fault": "fault", "leave": "leave",
}
LENGTHS = {"deed": 2, "stand": 2, "test": 3, "open": 2, "end": 2, "fault": 2, "leave": 3, "last": 2, "resume": 3,
           "jump": 2, "done": 1}
NO_NEXT = ("jump", "done", "end", "fault", "leave")


def whiles_around(rule, place):
    return [place[:n] for n in range(1, len(place), 2) if deed_at(rule, place[:n])[0] == "while"]


class CodeLook:
    """A look at a code of a rule; case is the test that tells what is amiss."""

    def __init__(self, case, rule, code):
        self.case, self.rule, self.code = case, rule, code
        case.assertIs(type(code), tuple)
        self.rows, self.guards = code

    def whole(self):
        self.forms()
        self.nexts()
        for at, row in enumerate(self.rows):
            self.leads(at, row)
            if row[0] not in ("jump", "done", "last"):
                self.goings(at, row)

    def number(self, t, *others):
        self.case.assertIs(type(t), int)
        self.case.assertTrue(0 <= t < len(self.rows) or t in others, t)

    def forms(self):
        """What 25 tells."""
        case = self.case
        case.assertIs(type(self.rows), tuple)
        case.assertIs(type(self.guards), tuple)
        case.assertTrue(1 <= len(self.rows) <= 300 and len(self.guards) <= 100)
        for row in self.rows:
            case.assertIs(type(row), tuple)
            case.assertEqual(len(row), LENGTHS[row[0]], row)
            if row[0] not in ("jump", "done"):
                case.assertIn(row[1], places(self.rule))
                deed = deed_at(self.rule, row[1])
                if row[0] in ("last", "resume"):
                    case.assertIn(row[1], tries_of(self.rule))
                else:
                    case.assertEqual(row[0], WORDS[deed[0]])
            if row[0] in ("test", "leave", "jump"):
                self.number(row[-1])
            if row[0] == "resume":
                self.number(row[-1], -1)
        for guard in self.guards:
            self.guard_form(*guard)

    def guard_form(self, first, beyond, place, catches, last):
        case = self.case
        self.number(first, len(self.rows))
        self.number(beyond, len(self.rows))
        case.assertEqual(deed_at(self.rule, place)[0], "try")
        case.assertIs(type(catches), tuple)
        case.assertIn(len(catches), (0, len(deed_at(self.rule, place)[2])))
        for number in catches:
            self.number(number)
        self.number(last, -1)

    def led(self, t):
        """The row to which jumps lead from this number."""
        seen = []
        while self.rows[t][0] == "jump":
            self.case.assertNotIn(t, seen)
            seen.append(t)
            t = self.rows[t][1]
        return self.rows[t]

    def nexts(self):
        for at, row in enumerate(self.rows):
            self.led(at)
            if row[0] not in NO_NEXT:
                self.case.assertLess(at + 1, len(self.rows))
        self.deed_led(0, (0,))
        for stand in stands_of(self.rule):
            self.case.assertIn(("stand", stand), self.rows)

    def deed_led(self, t, place):
        """From this number the deed's row of the place is led to."""
        self.case.assertEqual(self.led(t)[:2], (WORDS[deed_at(self.rule, place)[0]], place))

    def told_led(self, t, told):
        """From this number what 13 tells is led to."""
        if told[0] in ("deed", "test"):
            self.deed_led(t, told[1])
        elif told[0] == "end":
            self.case.assertEqual(self.led(t), ("done",))
        else:
            self.case.assertEqual(self.led(t)[:2], told)

    def leads(self, at, row):
        """What 27 tells to be led to from a row."""
        if row[0] in ("jump", "done", "end", "fault"):
            return
        place = row[1]
        deed = deed_at(self.rule, place)
        after = behind(self.rule, place)
        if row[0] in ("deed", "stand", "resume"):
            self.told_led(at + 1, after)
        elif row[0] == "last":
            self.deed_led(at + 1, place + (len(deed[2]) + 1, 0))
        elif row[0] in ("test", "open"):
            self.deed_led(at + 1, place + (0, 0))
        if row[0] == "test":
            elses = deed[0] == "if" and deed[3]
            self.told_led(row[2], ("deed", place + (1, 0)) if elses else after)
        if row[0] in ("leave", "resume"):
            whiles = whiles_around(self.rule, place)
            if whiles:
                self.number(row[2])
                self.told_led(row[2], behind(self.rule, whiles[-1]))
            else:
                self.case.assertEqual(row[2], -1)

    def words(self):
        """The words that some catch takes, and one that none but any takes."""
        tries = [deed_at(self.rule, place) for place in places(self.rule)]
        caught = {catch[0] for deed in tries if deed[0] == "try" for catch in deed[2]} - {"any"}
        return sorted(caught) + ["zzzzzzzz"]

    def goings(self, at, row):
        """Where faults, ends and leaves go by the guards."""
        place = row[1]
        for word in self.words():
            self.goes_as(fault_goes(self.rule, place, word), self.guarded(at, word, ()))
        self.goes_as(end_goes(self.rule, place), self.guarded(at, None, ()))
        whiles = whiles_around(self.rule, place)
        if whiles:
            self.goes_as(leave_goes(self.rule, place), self.guarded(at, None, whiles[-1]))

    def guarded(self, at, word, within):
        """The place of the guard's try, the number of a catch or None, and the row's number; None without a guard."""
        for first, beyond, place, catches, last in self.guards:
            if not first <= at < beyond or place[:len(within)] != within:
                continue
            if word is not None and catches:
                for n, catch in enumerate(deed_at(self.rule, place)[2]):
                    if catch[0] in (word, "any"):
                        return place, n, catches[n]
            if last != -1:
                return place, None, last
        return None

    def goes_as(self, goes, guarded):
        if goes[0] in ("out", "behind"):
            self.case.assertIsNone(guarded)
            return
        self.case.assertIsNotNone(guarded)
        place, number, t = guarded
        self.case.assertEqual(place, goes[1])
        if goes[0] == "catch":
            self.case.assertEqual(number, goes[2])
            self.deed_led(t, place + (number + 1, 0))
        else:
            self.case.assertIsNone(number)
            self.case.assertEqual(self.led(t), ("last", place))


NUMBER = "(?:0|[1-9][0-9]{0,2})"


def row_patterns(rule):
    """Patterns of how Python shows the rows that a code of the rule may have."""
    shown = [r"\('done',\)", rf"\('jump', {NUMBER}\)"]
    for place in places(rule):
        word = WORDS[deed_at(rule, place)[0]]
        number = f", {NUMBER}" if LENGTHS[word] == 3 else ""
        shown.append(rf"\('{word}', {re.escape(repr(place))}{number}\)")
    for place in tries_of(rule):
        shown.append(rf"\('last', {re.escape(repr(place))}\)")
        shown.append(rf"\('resume', {re.escape(repr(place))}, (?:-1|{NUMBER})\)")
    return shown


def guard_patterns(rule):
    """Patterns of how Python shows the guards that a code of the rule may have."""
    shown = [r"(?!)"]
    for place in places(rule):
        deed = deed_at(rule, place)
        if deed[0] == "try":
            catches = [r"\(\)", r"\(\)", rf"\({NUMBER},\)"] + [rf"\({NUMBER}{f', {NUMBER}' * n}\)" for n in (1, 2)]
            some = f"(?:{catches[0]}|{catches[len(deed[2]) + 1]})"
            shown.append(rf"\({NUMBER}, {NUMBER}, {re.escape(repr(place))}, {some}, (?:-1|{NUMBER})\)")
    return shown


def is_shown(thing, patterns, least, most):
    """Whether the thing is a tuple of at least and at most so many, each shown by one of the patterns."""
    if type(thing) is not tuple or not least <= len(thing) <= most:
        return False
    pattern = re.compile("|".join(patterns))
    return all(type(part) is tuple and pattern.fullmatch(repr(part)) for part in thing)


def second_is_code(rule, thing):
    """Whether the thing, whatever it is, is a code of the rule."""
    if type(thing) is not tuple or len(thing) != 2:
        return False
    if not is_shown(thing[0], row_patterns(rule), 1, 300) or not is_shown(thing[1], guard_patterns(rule), 0, 100):
        return False
    try:
        CodeLook(unittest.TestCase(), rule, thing).whole()
    except AssertionError:
        return False
    return True
