"""Promises 25 to 27: what code_of tells is a code of the rule, and runs as the rule does."""

import copy
import unittest

from handedon.codes import code_of, codes_of
from handedon.places import places
from handedon.reader import read_book
from handedon.treehall import TreeHall
from tests.code_look import CodeLook
from tests.halling import CLOSE, SEND, fault, number, send, whole
from tests.lively import Lively
from tests.makers import books
from tests.samples import BOOK, FULL_RULE, TINY_RULE
from tests.second import SecondHall, code_way


def rule_of(deeds):
    return read_book(f"rule main()\n{deeds}")[0]


def all_rules():
    """The rules of the tests' books."""
    made = books(150) + [Lively(seed).book() for seed in range(150)] + [BOOK]
    return [rule for book in made for rule in book]


class CodesTest(unittest.TestCase):
    def test_each_clause_for_each_rule_of_the_tests_books(self):
        for rule in all_rules():
            CodeLook(self, rule, code_of(rule)).whole()

    def test_at_most_three_rows_a_deed_and_one_more(self):
        for rule in all_rules():
            self.assertLessEqual(len(code_of(rule)[0]), 3 * len(places(rule)) + 1)

    def test_rules_of_thirty_deeds(self):
        tries = " try\n  note 1\n last\n  note 2\n"
        nested = " try\n  try\n   try\n    try\n     note 1\n    last\n     note 2\n   last\n    note 3\n  last\n   note 4\n last\n  note 5"
        for deeds in (" note 1\n" * 29 + " note 2", tries * 10, nested, " try\n  note 1\n catch any x\n  note 2\n" * 10,
                      " while 1\n  leave\n" * 15, " if 1\n  note 1\n else\n  note 2\n" * 10):
            rule = rule_of(deeds.rstrip("\n"))
            rows, guards = code_of(rule)
            self.assertLessEqual(len(rows), 3 * len(places(rule)) + 1)
            CodeLook(self, rule, (rows, guards)).whole()

    def test_codes_of_a_book(self):
        self.assertEqual(codes_of(BOOK), (code_of(FULL_RULE), code_of(TINY_RULE)))
        for book in books(20):
            self.assertEqual(codes_of(book), tuple(code_of(rule) for rule in book))
            self.assertIs(type(codes_of(book)), tuple)

    def test_a_tiny_one(self):
        rows, guards = code_of(TINY_RULE)
        self.assertEqual((rows[0], rows[-1], guards), (("end", (0,)), ("done",), ()))

    def test_what_is_handed_in_stays_and_the_same_is_told_twice(self):
        book = copy.deepcopy(BOOK)
        told = codes_of(BOOK)
        self.assertEqual(codes_of(BOOK), told)
        self.assertEqual(BOOK, book)

    def test_the_look_sees_what_is_amiss(self):
        """So that what is told above is told for a reason."""
        rule = rule_of(" while 1\n  try\n   try\n    x = give 1\n   catch w y\n    leave\n  catch any y\n   note 1\n  last\n   note 2\n if x\n  note 3\n else\n  note 4")
        rows, guards = code_of(rule)
        CodeLook(self, rule, (rows, guards)).whole()
        amiss = [(rows[:at] + (("jump", 0),) + rows[at + 1:], guards) for at in range(len(rows))]
        amiss += [(rows, guards[:at] + guards[at + 1:]) for at in range(len(guards))]
        amiss += [(rows, guards[::-1]), (rows[:-1], guards), (rows[1:], guards), (list(rows), guards)]
        for at, row in enumerate(rows):
            if row[0] in ("test", "leave", "resume"):
                amiss.append((rows[:at] + (row[:2] + (row[2] - 1,),) + rows[at + 1:], guards))
        for at, (first, beyond, place, catches, last) in enumerate(guards):
            for guard in ((first + 1, beyond, place, catches, last), (first, beyond, place, catches, 0)):
                amiss.append((rows, guards[:at] + (guard,) + guards[at + 1:]))
        seen = 0
        for code in amiss:
            try:
                CodeLook(self, rule, code).whole()
            except (AssertionError, IndexError):
                seen += 1
        # Jumps may stand where a jump stood, and a guard may begin behind what it needn't hold.
        self.assertGreater(seen, len(amiss) - 3)


class RunTest(unittest.TestCase):
    """The rows run as 26 tells, beside the walker."""

    def alike(self, deeds, *hows):
        book = read_book(f"rule main()\n{deeds}")
        halls = [TreeHall(book, 300), SecondHall(book, 300, code_way(dict(zip(book, codes_of(book)))))]
        for hall in halls:
            hall.make("main", ())
        for how in (SEND,) + hows:
            self.assertEqual(halls[0].ask(0, how), halls[1].ask(0, how))
            self.assertEqual(whole(halls[0]), whole(halls[1]))
        return halls[0]

    def test_blocks_of_each_sort(self):
        self.alike(" if x\n  note 1\n else\n  note 2\n if 1\n  note 3\n else\n  note 4\n n = 3\n while n\n  n = (n - 1)\n  if (n = 1)\n   leave\n note n")

    def test_all_ways_out_of_a_try(self):
        text = " while 1\n  try\n   try\n    x = give 1\n    {}\n   catch w y\n    x = give 2\n    {}\n   last\n    x = give 3\n    {}\n  last\n   x = give 4\n   note 5"
        ways = ("note 1", "end 6", "fault w 7", "fault v 8", "leave")
        for first in ways:
            for second in ways:
                for third in ways:
                    for hows in ((SEND,) * 4, (fault("w", 1), SEND, CLOSE, SEND), (CLOSE, fault("w", 2), send(3), SEND)):
                        self.alike(text.format(first, second, third), *hows)

    def test_pendings(self):
        hall = self.alike(" try\n  fault w 1\n last\n  try\n   end 2\n  last\n   x = give 3", SEND)
        self.assertEqual(hall.record()[-1], ("answered", ("ended", number(2))))


if __name__ == "__main__":
    unittest.main()
