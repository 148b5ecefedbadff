"""Promises 14 to 17 and 2: halls, makes and asks, one giver alone, expressions, deeds, steps."""

import copy
import unittest

from handedon.errors import Full, GiverError, NoAsk, NoBook, NoGiver, NoMost, NoRule, NoWorth
from handedon.treehall import TreeHall
from tests.halling import (
    CLOSE, CLOSED, NONE, SEND, STOPPED, ended, fault, given, giver, hall_of, note_numbers, notes, number, one_of, send,
    whole,
)
from tests.samples import BOOK, ODD, TINY_RULE

TINY = (TINY_RULE,)
COUNT = """rule count(n)
 while (0 < n)
  got = give n
  n = (n - 1)"""


def outcome(call, *args):
    """What the call tells, or the class of its refusal."""
    try:
        return call(*args)
    except GiverError as refusal:
        return type(refusal)


class MakingTest(unittest.TestCase):
    def test_of_no_book(self):
        for thing in ODD + [list(BOOK), BOOK[:1], BOOK + BOOK, "rule tiny()\n end none"]:
            self.assertEqual(outcome(TreeHall, thing, 300), NoBook, thing)

    def test_of_no_most(self):
        for thing in ODD + [301, 300 + 10 ** 20, "300", (300,), [300], {300: 300}]:
            if thing in (1, 7) and thing is not True:
                continue
            self.assertEqual(outcome(TreeHall, BOOK, thing), NoMost, thing)

    def test_the_edges_of_most(self):
        for most, there in ((-1, False), (0, False), (1, True), (2, True), (299, True), (300, True), (301, False)):
            told = outcome(TreeHall, BOOK, most)
            self.assertEqual(isinstance(told, TreeHall), there, most)
        self.assertEqual(outcome(TreeHall, BOOK, True), NoMost)

    def test_no_book_is_told_ahead_of_no_most(self):
        self.assertEqual(outcome(TreeHall, (), 0), NoBook)
        self.assertEqual(outcome(TreeHall, None, None), NoBook)

    def test_a_new_hall(self):
        hall = TreeHall(BOOK, 300)
        self.assertEqual(whole(hall), (0, 0, 0, (), (), []))
        for call in (hall.state, hall.worths, hall.chain, lambda k: hall.ask(k, CLOSE)):
            for k in (0, -1, 1):
                self.assertEqual(outcome(call, k), NoGiver)

    def test_givers_are_numbered_as_they_are_made(self):
        hall = TreeHall(BOOK, 300)
        self.assertEqual([hall.make("tiny", ()), hall.make("full", (NONE, giver(0))), hall.make("tiny", ())], [0, 1, 2])
        self.assertEqual(hall.many(), 3)
        self.assertEqual([hall.state(k) for k in range(3)], [("new",)] * 3)
        self.assertEqual([hall.chain(k) for k in range(3)], [[0], [1], [2]])
        self.assertEqual((hall.record(), hall.steps(), hall.hops()), ((), 0, 0))

    def test_params_have_their_worths_and_other_variables_none(self):
        hall = hall_of("rule main(b, a)\n z = c")
        hall.make("main", (number(4), NONE))
        hall.make("main", (giver(0), number(-3)))
        self.assertEqual(hall.worths(0), (number(4), NONE, NONE, NONE))
        self.assertEqual(hall.worths(1), (giver(0), number(-3), NONE, NONE))

    def test_no_rule(self):
        hall = hall_of(COUNT)
        for thing in ODD + ["coun", "counts", "Count", ("count",), ["count"], {"count": "count"}]:
            self.assertEqual(outcome(hall.make, thing, (NONE,)), NoRule, thing)
        self.assertEqual(hall.many(), 0)

    def test_no_worth(self):
        hall = hall_of(COUNT)
        hall.make("count", (NONE,))
        for thing in ODD + [
            (), NONE, (NONE, NONE), [NONE], (("none",),) * 2, (list(NONE),), {NONE: NONE}, giver(0), (giver(1),),
            (giver(-1),), (giver(True),), (giver(False),), (number(True),), (number(10 ** 30),), (number(-(10 ** 30)),),
            (("number", "1"),), (("worth", 1),), ((NONE,),), "none", number(1),
        ]:
            self.assertEqual(outcome(hall.make, "count", thing), NoWorth, thing)
        self.assertEqual(hall.many(), 1)
        for worth in (NONE, number(10 ** 30 - 1), number(1 - 10 ** 30), giver(0)):
            hall.make("count", (worth,))
        self.assertEqual([hall.worths(k)[0] for k in range(1, 5)],
                         [NONE, number(10 ** 30 - 1), number(1 - 10 ** 30), giver(0)])

    def test_a_giver_that_is_not_there_yet_is_no_worth(self):
        hall = hall_of("rule main(g)\n x = on g")
        self.assertEqual(outcome(hall.make, "main", (giver(0),)), NoWorth)
        hall.make("main", (NONE,))
        self.assertEqual(outcome(hall.make, "main", (giver(0),)), 1)

    def test_a_hundred_givers_and_one_more(self):
        hall = hall_of(COUNT)
        self.assertEqual([hall.make("count", (NONE,)) for _ in range(100)], list(range(100)))
        before = whole(hall)
        self.assertEqual(outcome(hall.make, "count", (giver(99),)), Full)
        self.assertEqual(outcome(hall.make, "count", (giver(100),)), NoWorth)
        self.assertEqual(outcome(hall.make, "none", ()), NoRule)
        self.assertEqual(outcome(hall.make, "none", None), NoRule)
        self.assertEqual(outcome(hall.make, "count", None), NoWorth)
        self.assertEqual(whole(hall), before)
        self.assertEqual(hall.state(99), ("new",))

    def test_no_giver(self):
        hall = hall_of(COUNT)
        hall.make("count", (NONE,))
        hall.make("count", (NONE,))
        for thing in ODD + [2, 100, "0", (0,), [0], giver(0), {0: 0}]:
            if thing in (0, 1) and not isinstance(thing, bool):
                continue
            for call in (hall.state, hall.worths, hall.chain):
                self.assertEqual(outcome(call, thing), NoGiver, thing)
            for how in (SEND, CLOSE, None):
                self.assertEqual(outcome(hall.ask, thing, how), NoGiver, thing)

    def test_no_ask(self):
        hall = hall_of(COUNT)
        hall.make("count", (NONE,))
        before = whole(hall)
        for thing in ODD + [
            ("send",), ("send", None), ("send", 1), ("send", NONE, NONE), ["send", NONE], ("send", list(NONE)),
            ("send", giver(1)), ("send", giver(-1)), ("send", giver(False)), ("send", number(True)),
            ("send", number(10 ** 30)), ("Send", NONE), (("send",), NONE), "send", "close", "fault", ["close"],
            ("close", NONE), ("close", "close"), ("closed",), ("fault",), ("fault", "w"), ("fault", "w", None),
            ("fault", "any", NONE), ("fault", "", NONE), ("fault", "wwwwwwwww", NONE), ("fault", "W", NONE),
            ("fault", 1, NONE), ("fault", ("w",), NONE), ("fault", "w", giver(1)), ("fault", "w", NONE, NONE),
            ("fault", "w", number(10 ** 30)), ["fault", "w", NONE], ("given", NONE), {"close": "close"},
        ]:
            self.assertEqual(outcome(hall.ask, 0, thing), NoAsk, thing)
        self.assertEqual(whole(hall), before)

    def test_each_how_is_one(self):
        for how in (SEND, send(5), ("send", giver(0)), fault("w"), fault("close", 3), ("fault", "if", giver(0)), CLOSE):
            hall = hall_of(COUNT)
            hall.make("count", (number(1),))
            hall.ask(0, how)
            self.assertEqual(hall.record()[0], ("asked", 0, how))


class OneGiverTest(unittest.TestCase):
    def test_worths_are_given_one_by_one(self):
        hall = hall_of(COUNT)
        hall.make("count", (number(2),))
        self.assertEqual(hall.ask(0, send(9)), given(2))
        self.assertEqual(hall.state(0), ("gives", 1))
        # What is sent to a new one is dropped.
        self.assertEqual(hall.worths(0), (number(2), NONE))
        self.assertEqual(hall.ask(0, send(8)), given(1))
        self.assertEqual(hall.worths(0), (number(1), number(8)))
        self.assertEqual(hall.ask(0, ("send", giver(0))), ended())
        self.assertEqual((hall.state(0), hall.worths(0), hall.chain(0)), (("ended",), (), [0]))
        self.assertEqual(hall.record(), (
            ("asked", 0, send(9)), ("begin", 0), ("give", 0, number(2)), ("answered", given(2)),
            ("asked", 0, send(8)), ("give", 0, number(1)), ("answered", given(1)),
            ("asked", 0, ("send", giver(0))), ("end", 0, NONE), ("answered", ended()),
        ))
        self.assertEqual((hall.steps(), hall.hops()), (7, 3))

    def test_a_new_one_by_a_fault_or_a_close_ends_at_once(self):
        for how, answer, out in ((fault("w", 4), fault("w", 4), fault("w", 4)), (CLOSE, CLOSED, fault("close")),
                                 (fault("close", 4), fault("close", 4), fault("close", 4))):
            hall = one_of("rule main()\n try\n  x = give 1\n catch any y\n  note 1\n last\n  note 2")
            self.assertEqual(hall.ask(0, how), answer)
            self.assertEqual(hall.state(0), ("ended",))
            self.assertEqual(hall.worths(0), ())
            self.assertEqual(hall.record(), (("asked", 0, how), ("out", 0) + out[1:], ("answered", answer)))
            self.assertEqual((hall.steps(), hall.hops()), (0, 1))

    def test_one_that_has_ended(self):
        hall = one_of("rule main()\n end 5")
        self.assertEqual(hall.ask(0, SEND), ended(5))
        rows = len(hall.record())
        for how, answer in ((send(3), ended()), (fault("w", 4), fault("w", 4)), (CLOSE, CLOSED),
                            (fault("close", 4), fault("close", 4)), (SEND, ended())):
            self.assertEqual(hall.ask(0, how), answer)
            self.assertEqual(hall.record()[rows:], (("asked", 0, how), ("answered", answer)))
            self.assertEqual((hall.state(0), hall.steps()), (("ended",), 1))
            rows = len(hall.record())

    def test_a_fault_is_raised_at_the_give(self):
        text = "rule main()\n try\n  x = give 1\n catch w y\n  z = give (y + 1)\n end y"
        hall = one_of(text)
        hall.ask(0, SEND)
        self.assertEqual(hall.ask(0, fault("w", 6)), given(7))
        self.assertEqual((hall.state(0), hall.worths(0)), (("gives", 2), (NONE, number(6), NONE)))
        self.assertEqual(hall.ask(0, fault("w", 8)), fault("w", 8))
        self.assertEqual(hall.state(0), ("ended",))
        hall = one_of(text)
        hall.ask(0, SEND)
        self.assertEqual(hall.ask(0, fault("v", 6)), fault("v", 6))
        self.assertEqual(hall.record()[-2:], (("out", 0, "v", number(6)), ("answered", fault("v", 6))))

    def closed(self, deeds):
        """What comes of a close to a giver that stands at a give, with these deeds in a catch of close."""
        hall = one_of(f"rule main()\n try\n  x = give 1\n catch close y\n{deeds}")
        hall.ask(0, SEND)
        return hall, hall.ask(0, CLOSE)

    def test_a_close_that_is_taken(self):
        for deeds in ("  note 1", "  end 4", "  fault close 7", "  note y\n  fault close none"):
            hall, answer = self.closed(deeds)
            self.assertEqual((answer, hall.state(0)), (CLOSED, ("ended",)), deeds)
        hall, answer = self.closed("  fault w 3")
        self.assertEqual((answer, hall.state(0)), (fault("w", 3), ("ended",)))
        hall, answer = self.closed("  x = give 5")
        self.assertEqual((answer, hall.state(0)), (fault("gives"), ("gives", 2)))
        self.assertEqual(hall.record()[-2:], (("give", 0, number(5)), ("answered", fault("gives"))))
        self.assertEqual(hall.ask(0, send(2)), ended())

    def test_a_close_that_is_not_taken(self):
        hall = one_of("rule main()\n x = give 1")
        hall.ask(0, SEND)
        self.assertEqual((hall.ask(0, CLOSE), hall.state(0)), (CLOSED, ("ended",)))
        self.assertEqual(hall.record()[-3:], (("asked", 0, CLOSE), ("out", 0, "close", NONE), ("answered", CLOSED)))

    def test_a_fault_close_is_no_close(self):
        text = "rule main()\n try\n  x = give 1\n catch close y\n  note y\n  x = give 2\n end 3"
        hall = one_of(text)
        hall.ask(0, SEND)
        self.assertEqual(hall.ask(0, fault("close", 8)), given(2))
        self.assertEqual(notes(hall), [number(8)])
        self.assertEqual(hall.ask(0, fault("close", 9)), fault("close", 9))

    def test_a_close_has_none(self):
        hall, answer = self.closed("  note y")
        self.assertEqual((notes(hall), answer), ([NONE], CLOSED))

    def test_ends(self):
        for deed, answer in (("end 4", ended(4)), ("end none", ended()), ("note 1", ended()), ("fault w 2", fault("w", 2)),
                             ("fault close none", fault("close")), ("end make main()", ("ended", giver(1)))):
            hall = one_of(f"rule main()\n {deed}")
            self.assertEqual(hall.ask(0, SEND), answer)
            self.assertEqual((hall.state(0), hall.worths(0)), (("ended",), ()))

    def test_what_is_behind_an_end_or_a_fault_is_not_done(self):
        for deed in ("end 4", "fault w 2"):
            hall = one_of(f"rule main()\n {deed}\n note 1")
            hall.ask(0, SEND)
            self.assertEqual((notes(hall), hall.steps()), ([], 1))


class ExpressionTest(unittest.TestCase):
    def noted(self, expression):
        """What is noted of the expression, or the word of the fault that comes of it, and how many givers there are."""
        hall = one_of(f"rule main()\n n = 3\n note {expression}\nrule two()\n end none\nrule one(a)\n end none")
        answer = hall.ask(0, SEND)
        if answer == ended():
            return note_numbers(hall)[0], hall.many()
        self.assertEqual(answer, fault(answer[1]))
        return answer[1], hall.many()

    def test_each_sort(self):
        for expression, told in (
            ("none", NONE), ("-7", -7), ("n", 3), ("x", NONE), ("(n + 4)", 7), ("(n - 4)", -1), ("(n * n)", 9),
            ("(n < 4)", 1), ("(n < 3)", 0), ("(n = 3)", 1), ("(n = none)", 0), ("(none = x)", 1), ("((n + 1) * (n - 1))", 8),
        ):
            self.assertEqual(self.noted(expression), (told, 1), expression)

    def test_faults(self):
        great = "9" * 30
        for expression, word in (
            ("(n + none)", "kind"), ("(none < n)", "kind"), (f"({great} + 1)", "great"), (f"({great} * {great})", "great"),
            (f"(-{great} - 1)", "great"), ("(n + (none * n))", "kind"), ("(n = (none + n))", "kind"),
        ):
            self.assertEqual(self.noted(expression), (word, 1), expression)

    def test_makes(self):
        self.assertEqual(self.noted("make two()"), (giver(1), 2))
        self.assertEqual(self.noted("make one(make two())"), (giver(2), 3))
        self.assertEqual(self.noted("(make two() = make two())"), (0, 3))

    def test_from_the_left_and_what_is_behind_a_fault_is_not_reckoned(self):
        self.assertEqual(self.noted("(make two() + 1)"), ("kind", 2))
        self.assertEqual(self.noted("((n + none) = make two())"), ("kind", 1))
        self.assertEqual(self.noted("(make two() = (n + none))"), ("kind", 2))
        self.assertEqual(self.noted("make one((make two() + make two()))"), ("kind", 3))
        self.assertEqual(self.noted("(make two() + (none + n))"), ("kind", 2))

    def test_numbers_and_args_of_made_givers(self):
        hall = one_of("rule main()\n p = make pair(make pair(1, 2), make pair(3, 4))\nrule pair(a, b)\n c = a")
        hall.ask(0, SEND)
        self.assertEqual([hall.worths(k) for k in range(1, 4)], [
            (number(1), number(2), NONE), (number(3), number(4), NONE), (giver(1), giver(2), NONE),
        ])
        self.assertEqual([hall.state(k) for k in range(4)], [("ended",), ("new",), ("new",), ("new",)])

    def test_a_made_giver_stays_whatever_follows(self):
        hall = one_of("rule main()\n fault w make main()")
        self.assertEqual(hall.ask(0, SEND), ("fault", "w", giver(1)))
        self.assertEqual((hall.many(), hall.state(1)), (2, ("new",)))
        self.assertEqual(hall.ask(1, SEND), ("fault", "w", giver(2)))

    def test_full(self):
        text = "rule main(a)\n try\n  note make main((a + 1))\n catch full x\n  note x\n  end 7"
        hall = hall_of(text)
        for _ in range(99):
            hall.make("main", (number(1),))
        self.assertEqual(hall.ask(0, SEND), ended())
        self.assertEqual((hall.many(), notes(hall)), (100, [giver(99)]))
        self.assertEqual(hall.ask(1, SEND), ended(7))
        self.assertEqual((hall.many(), notes(hall)[1:]), (100, [NONE]))

    def test_args_are_reckoned_ahead_of_full(self):
        hall = hall_of("rule main(a)\n note make main((a + 1))")
        for _ in range(100):
            hall.make("main", (NONE,))
        self.assertEqual(hall.ask(0, SEND), fault("kind"))
        hall = hall_of("rule main(a)\n note make main((a + 1))")
        for _ in range(100):
            hall.make("main", (number(1),))
        self.assertEqual(hall.ask(0, SEND), fault("full"))


class DeedTest(unittest.TestCase):
    def run_notes(self, deeds, params="", worths=(), asks=(SEND,)):
        """The notes of a giver that runs these deeds."""
        hall = hall_of(f"rule main({params})\n{deeds}")
        hall.make("main", worths)
        self.answers = [hall.ask(0, how) for how in asks]
        self.rows = hall.record()
        return note_numbers(hall)

    def test_if(self):
        text = " if a\n  note 1\n else\n  note 2\n note 3"
        for worth, noted in ((NONE, 2), (number(0), 2), (number(1), 1), (number(-1), 1), (giver(0), 1)):
            hall = hall_of("rule main(a)\n" + text)
            hall.make("main", (NONE,))
            k = hall.make("main", (worth,))
            hall.ask(k, SEND)
            self.assertEqual(note_numbers(hall), [noted, 3])
        self.assertEqual(self.run_notes(" if 0\n  note 1\n note 2"), [2])

    def test_while_and_leave(self):
        self.assertEqual(self.run_notes(" while (0 < a)\n  note a\n  a = (a - 1)\n note 9", "a", (number(3),)), [3, 2, 1, 9])
        self.assertEqual(self.run_notes(" while none\n  note 1\n note 9"), [9])
        deeds = " while 1\n  while 1\n   note 1\n   leave\n   note 2\n  note 3\n  if 1\n   leave\n  note 4\n note 5"
        self.assertEqual(self.run_notes(deeds), [1, 3, 5])

    def test_catches(self):
        deeds = " try\n  note 1\n  fault w 5\n  note 2\n catch v x\n  note 3\n catch w x\n  note x\n catch any x\n  note 4\n note 6"
        self.assertEqual(self.run_notes(deeds), [1, 5, 6])
        self.assertEqual(self.run_notes(deeds.replace("fault w", "fault u")), [1, 4, 6])
        self.assertEqual(self.run_notes(" try\n  note (1 + none)\n catch kind x\n  note x"), [NONE])

    def test_words_like_close_and_ring_may_be_raised(self):
        for word in ("close", "ring", "deep", "kind", "great", "full", "gives", "if"):
            self.assertEqual(self.run_notes(f" try\n  fault {word} 5\n catch {word} x\n  note x"), [5])

    def test_a_fault_out_of_a_catch_goes_past_its_try(self):
        deeds = " try\n  try\n   fault w 1\n  catch any x\n   fault w 2\n  catch w x\n   note 3\n catch w x\n  note x"
        self.assertEqual(self.run_notes(deeds), [2])

    def test_lasts_come_once_whatever_goes(self):
        lasts = " last\n  note 7\n note 8"
        for deed, told, answer in (
            ("note 1", [1, 7, 8], ended()), ("end 4", [7], ended(4)), ("fault w 4", [7], fault("w", 4)),
            ("note (none + 1)", [7], fault("kind")),
        ):
            self.assertEqual(self.run_notes(f" try\n  {deed}\n{lasts}"), told)
            self.assertEqual(self.answers, [answer])
            tries = [row for row in self.rows if row[0] in ("try", "last")]
            self.assertEqual(tries, [("try", 0, 0), ("last", 0, 0)])

    def test_inner_lasts_ahead_of_outer_ones(self):
        for deed, answer in (("end 4", ended(4)), ("fault w 4", fault("w", 4))):
            deeds = f" try\n  try\n   try\n    {deed}\n   last\n    note 1\n  last\n   note 2\n last\n  note 3"
            self.assertEqual(self.run_notes(deeds), [1, 2, 3])
            self.assertEqual(self.answers, [answer])
            self.assertEqual([row[2] for row in self.rows if row[0] == "last"], [2, 1, 0])

    def test_a_leave_goes_over_the_lasts_within_the_while_alone(self):
        deeds = " try\n  while 1\n   try\n    leave\n   last\n    note 1\n   note 2\n  note 3\n last\n  note 4"
        self.assertEqual(self.run_notes(deeds), [1, 3, 4])

    def test_what_goes_out_of_lasts_takes_the_place_of_what_was_to_come(self):
        for first in ("end 4", "fault w 4", "note 4", "leave"):
            for second, answer in (("end 5", ended(5)), ("fault v 5", fault("v", 5)), ("leave", ended(6))):
                deeds = f" while 1\n  try\n   {first}\n  last\n   note 1\n   {second}\n   note 2\n end 6"
                self.assertEqual([n for n in self.run_notes(deeds) if n != 4], [1], (first, second))
                self.assertEqual(self.answers, [answer])

    def test_a_fault_in_lasts_is_taken_further_out(self):
        deeds = " try\n  try\n   end 4\n  catch any x\n   note 0\n  last\n   fault w 5\n catch w x\n  note x\n end 6"
        self.assertEqual(self.run_notes(deeds), [5])
        self.assertEqual(self.answers, [ended(6)])

    def test_a_fault_taken_within_lasts_lets_go_on_what_was_to_come(self):
        deeds = " try\n  end 4\n last\n  try\n   fault w 5\n  catch w x\n   note x\n  note 6"
        self.assertEqual(self.run_notes(deeds), [5, 6])
        self.assertEqual(self.answers, [ended(4)])

    def test_tries_within_lasts(self):
        deeds = " try\n  fault w 1\n last\n  try\n   end 2\n  last\n   note 3\n  note 4"
        self.assertEqual(self.run_notes(deeds), [3])
        self.assertEqual(self.answers, [ended(2)])
        deeds = " try\n  fault w 1\n last\n  while 1\n   try\n    leave\n   last\n    note 3\n  note 4"
        self.assertEqual(self.run_notes(deeds), [3, 4])
        self.assertEqual(self.answers, [fault("w", 1)])

    def test_a_give_in_lasts(self):
        deeds = " try\n  fault w 1\n last\n  x = give 2\n  note x"
        self.assertEqual(self.run_notes(deeds, asks=(SEND, send(5))), [5])
        self.assertEqual(self.answers, [given(2), fault("w", 1)])
        self.assertEqual(self.run_notes(deeds, asks=(SEND, fault("v", 5))), [])
        self.assertEqual(self.answers, [given(2), fault("v", 5)])
        self.run_notes(deeds, asks=(SEND, CLOSE))
        self.assertEqual(self.answers, [given(2), CLOSED])
        # The close is over, but for what was to come: a fault that isn't of its word.
        deeds = " try\n  x = give 1\n last\n  try\n   x = give 2\n  catch close y\n   note 3"
        self.assertEqual(self.run_notes(deeds, asks=(SEND, fault("w", 5), CLOSE)), [3])
        self.assertEqual(self.answers, [given(1), given(2), fault("w", 5)])

    def test_a_close_in_the_midst_of_lasts_begins_them_no_second_time(self):
        deeds = " try\n  try\n   x = give 1\n  last\n   note 2\n   x = give 3\n   note 4\n last\n  note 5"
        self.assertEqual(self.run_notes(deeds, asks=(SEND, CLOSE, CLOSE)), [2, 5])
        self.assertEqual(self.answers, [given(1), fault("gives"), CLOSED])
        self.assertEqual([row for row in self.rows if row[0] in ("try", "last")],
                         [("try", 0, 0), ("try", 0, 1), ("last", 0, 1), ("last", 0, 0)])


class StepTest(unittest.TestCase):
    def counted(self, deeds):
        """How many steps the deeds take; with that as most they go through, with one less they are stopped."""
        text = f"rule main()\n{deeds}"
        hall = one_of(text)
        answer = hall.ask(0, SEND)
        steps = hall.steps()
        self.assertEqual(one_of(text, steps).ask(0, SEND), answer)
        if steps > 1:
            hall = one_of(text, steps - 1)
            before = whole(hall)
            self.assertEqual(hall.ask(0, SEND), STOPPED)
            self.assertEqual(whole(hall), before)
        return steps

    def test_each_deed_that_is_begun_is_a_step(self):
        for deeds, steps in (
            (" note 1", 1), (" a = 1\n note a\n end a\n note a", 3), (" if 1\n  note 1\n else\n  note 2\n  note 3", 2),
            (" if 0\n  note 1\n else\n  note 2\n  note 3", 3), (" if 0\n  note 1", 1), (" while 0\n  note 1", 1),
            (" n = 2\n while (0 < n)\n  n = (n - 1)", 6), (" while 1\n  leave", 2), (" while 1\n  note 1\n  leave\n note 2", 4),
            (" try\n  note 1\n catch any x\n  note 2\n last\n  note 3", 3), (" try\n  fault w 1\n catch any x\n  note 2", 3),
            (" try\n  end 1\n last\n  note 1\n  note 2\n note 3", 4), (" x = give 1", 1), (" fault w (1 + none)", 1),
            (" a, b = ask none, 1", 1), (" x = on 1", 1), (" close 3", 1),
        ):
            self.assertEqual(self.counted(deeds), steps, deeds)

    def test_a_whiles_expression_again_is_a_step_also_where_it_faults(self):
        self.assertEqual(self.counted(" n = 1\n while (0 < n)\n  n = none"), 4)

    def test_most_1_and_300(self):
        hall = one_of("rule main()\n x = give 1\n note 2\n note 3", 1)
        self.assertEqual(hall.ask(0, SEND), given(1))
        before = whole(hall)
        self.assertEqual(hall.ask(0, send(5)), STOPPED)
        self.assertEqual(whole(hall), before)
        self.assertEqual(hall.ask(0, fault("w")), fault("w"))
        text = "rule main()\n n = 0\n while (n < {})\n  n = (n + 1)"
        # One for the let, one for the while, two for each round.
        self.assertEqual(one_of(text.format(149)).ask(0, SEND), ended())
        self.assertEqual(one_of(text.format(150)).ask(0, SEND), STOPPED)
        self.assertEqual(one_of(text.format(149) + "\n note 1", 300).ask(0, SEND), STOPPED)

    def test_steps_are_those_of_all_asks_and_most_is_for_each(self):
        hall = one_of("rule main()\n while 1\n  x = give 1", 2)
        self.assertEqual([hall.ask(0, SEND) for _ in range(50)], [given(1)] * 50)
        self.assertEqual(hall.steps(), 100)

    def test_what_is_stopped_leaves_all_as_it_was(self):
        text = """rule main(a)
 try
  x = give 1
  a = make main(x)
  note a
  c, d = ask a, 1
  while x
   n = 1
 catch w y
  note y
 last
  note 2
  x = give 5"""
        hall = hall_of(text, 40)
        hall.make("main", (NONE,))
        self.assertEqual(hall.ask(0, SEND), given(1))
        before, told = whole(hall), copy.deepcopy(whole(hall))
        for how in (send(1), ("send", giver(0)), send(1)):
            self.assertEqual(hall.ask(0, how), STOPPED)
            self.assertEqual(whole(hall), before)
        self.assertEqual(before, told)
        self.assertEqual(hall.ask(0, send(0)), given(5))
        self.assertEqual(hall.many(), 2)
        self.assertEqual(notes(hall), [giver(1), number(2)])
        # A giver made anew has the number of the one that is gone.
        self.assertEqual(hall.make("main", (giver(1),)), 2)

    def test_the_record_has_no_row_of_what_is_stopped(self):
        hall = one_of("rule main()\n x = give 1\n while x\n  note 1", 20)
        hall.ask(0, SEND)
        rows = hall.record()
        hall.ask(0, send(1))
        self.assertEqual(hall.record(), rows)
        hall.ask(0, send(0))
        self.assertEqual(hall.record(), rows + (("asked", 0, send(0)), ("end", 0, NONE), ("answered", ended())))


class OwnTest(unittest.TestCase):
    """What is handed in stays as it was, and what is told is the asker's own."""

    def test_what_was_told_stays_whatever_is_done_later(self):
        hall = hall_of(COUNT + "\nrule over(g)\n x = on g\n y = give x")
        hall.make("count", (number(2),))
        hall.make("over", (giver(0),))
        told = []
        for how in (SEND, send(4), fault("w", 3), SEND, CLOSE, CLOSE):
            hall.ask(1, how)
            told.append((whole(hall), copy.deepcopy(whole(hall))))
        for now, then in told:
            self.assertEqual(now, then)

    def test_nothing_done_to_what_was_told_changes_a_later_answer(self):
        hall = hall_of(COUNT + "\nrule over(g)\n x = on g\n y = give x")
        hall.make("count", (number(2),))
        hall.make("over", (giver(0),))
        hall.ask(1, SEND)
        hall.chain(1).clear()
        hall.chain(1).append(7)
        self.assertEqual(hall.chain(1), [1, 0])
        self.assertEqual(hall.ask(1, SEND), given(1))

    def test_plain_kinds(self):
        hall = hall_of(COUNT + "\nrule over(g)\n x = on g\n y = give x")
        hall.make("count", (number(2),))
        hall.make("over", (giver(0),))
        for how in (SEND, send(4), fault("w", 3), SEND, CLOSE):
            told = [hall.ask(1, how), hall.state(0), hall.state(1), hall.worths(0), hall.worths(1), hall.record(), hall.keep()]
            self.assertEqual({type(thing) for thing in told}, {tuple})
            self.assertEqual(type(hall.chain(1)), list)
            self.assertEqual({type(thing) for thing in (hall.many(), hall.steps(), hall.hops())}, {int})
            self.assertEqual({type(row) for row in hall.record()}, {tuple})

    def test_the_same_asked_twice_is_told_alike(self):
        hall = hall_of(COUNT)
        hall.make("count", (number(2),))
        hall.ask(0, SEND)
        self.assertEqual(whole(hall), whole(hall))

    def test_halls_of_one_book_are_each_their_own(self):
        first, second = hall_of(COUNT), hall_of(COUNT)
        for hall in (first, second):
            hall.make("count", (number(2),))
        first.ask(0, SEND)
        self.assertEqual(second.state(0), ("new",))
        self.assertEqual(second.record(), ())

    def test_whatever_is_handed_in_stays_as_it_was(self):
        things = copy.deepcopy(ODD)
        hall = hall_of(COUNT)
        hall.make("count", (number(2),))
        before = whole(hall)
        for thing in things:
            for call in (lambda: TreeHall(thing, 300), lambda: TreeHall(BOOK, thing), lambda: hall.make(thing, ()),
                         lambda: hall.make("count", thing), lambda: hall.make("count", (thing,)),
                         lambda: hall.ask(0, thing), lambda: hall.ask(0, ("send", thing)),
                         lambda: hall.ask(0, ("fault", thing, NONE)), lambda: hall.ask(0, ("fault", "w", thing))):
                outcome(call)
        self.assertEqual(things, ODD)
        self.assertEqual(whole(hall), before)

    def test_the_book_stays_as_it_was(self):
        book = copy.deepcopy(BOOK)
        hall = TreeHall(book, 300)
        hall.make("full", (number(1), number(2)))
        for how in (SEND, SEND, CLOSE):
            hall.ask(0, how)
        self.assertEqual(book, BOOK)


if __name__ == "__main__":
    unittest.main()
