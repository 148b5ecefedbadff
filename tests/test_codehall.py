"""Promises 3, 22, 24, 26, 29 and 2: the machine's hall beside the walker's, and its hops."""

import copy
import unittest

from handedon.codehall import CodeHall
from handedon.codes import code_of, codes_of
from handedon.errors import Full, NoAsk, NoBook, NoCode, NoGiver, NoMost, NoRule, NoWorth
from handedon.looker import lets_record
from handedon.reader import read_book
from handedon.treehall import TreeHall
from tests.halling import CLOSE, NONE, SEND, STOPPED, ended, fault, given, giver, number, send, whole
from tests.lively import Lively, most_of
from tests.machines import SORTS
from tests.samples import BOOK, ODD
from tests.second_hops import Hops
from tests.test_codelook import NESTED, RULE
from tests.test_halls import outcome

CHAINS = read_book("""rule count(n)
 while (0 < n)
  got = give n
  n = (n - 1)
 end 50
rule over(g)
 x = on g
 end x
rule often(g)
 while 1
  try
   x = on g
   note x
  catch w y
   x = give 7
   g = x""")


def told(hall):
    """All that a hall tells but its hops."""
    many, steps, hops, *rest = whole(hall)
    return (many, steps, *rest)


def halls_of(book, most):
    """A walker's hall, and a machine's by each sort of codes."""
    return [TreeHall(book, most)] + [CodeHall(book, sort(book), most) for sort in SORTS]


class RefusalTest(unittest.TestCase):
    def test_no_book(self):
        for thing in ODD + [list(BOOK), BOOK[:1], BOOK + BOOK]:
            self.assertEqual(outcome(CodeHall, thing, codes_of(BOOK), 300), NoBook, thing)

    def test_no_most(self):
        for thing in (None, True, False, 0, -1, 301, "300", (300,), [300], 10 ** 39, {}):
            self.assertEqual(outcome(CodeHall, BOOK, codes_of(BOOK), thing), NoMost, thing)
        for most in (1, 2, 299, 300):
            self.assertIsInstance(CodeHall(BOOK, codes_of(BOOK), most), CodeHall)

    def test_no_code(self):
        first, second = codes_of(BOOK)
        for thing in ODD + [
            [first, second], (first,), (second,), (second, first), (first, second, second), (first, first), first, second,
            (first, list(second)), (first, None), (None, second), ((first, second),), {0: first, 1: second},
            (first, (second[0] + (("jump", 2),), second[1])), (first, (list(second[0]), second[1])),
            (first, (second[0], list(second[1]))), ((first[0], first[1][1:]), second),
        ]:
            self.assertEqual(outcome(CodeHall, BOOK, thing, 300), NoCode, thing)

    def test_the_one_named_first_is_told(self):
        codes = codes_of(BOOK)
        for book, code, most, error in (
            (None, None, None, NoBook), (None, codes, None, NoBook), (None, None, 300, NoBook), ((), codes, 0, NoBook),
            (BOOK, None, None, NoMost), (BOOK, (), 301, NoMost), (BOOK, codes, True, NoMost), (BOOK, None, 300, NoCode),
            (BOOK, codes[::-1], 1, NoCode),
        ):
            self.assertEqual(outcome(CodeHall, book, code, most), error)

    def test_methods_refuse_as_the_walkers_do(self):
        for hall in halls_of(CHAINS, 300):
            self.assertEqual(outcome(hall.make, "none", None), NoRule)
            self.assertEqual(outcome(hall.make, "over", (giver(0),)), NoWorth)
            self.assertEqual(outcome(hall.ask, 0, None), NoGiver)
            for k in range(100):
                self.assertEqual(hall.make("count", (number(1),)), k)
            before = whole(hall)
            self.assertEqual(outcome(hall.make, "count", (NONE,)), Full)
            self.assertEqual(outcome(hall.make, "count", ()), NoWorth)
            self.assertEqual(outcome(hall.ask, 100, None), NoGiver)
            self.assertEqual(outcome(hall.ask, 99, ("send", giver(100))), NoAsk)
            self.assertEqual(outcome(hall.ask, True, SEND), NoGiver)
            for call in (hall.state, hall.worths, hall.chain):
                for k in (100, -1, None, "0", True, (0,), [0]):
                    self.assertEqual(outcome(call, k), NoGiver)
            self.assertEqual(whole(hall), before)

    def test_what_is_handed_in_stays(self):
        book, codes = copy.deepcopy(CHAINS), copy.deepcopy(codes_of(CHAINS))
        hall = CodeHall(CHAINS, codes_of(CHAINS), 300)
        hall.make("count", (number(2),))
        hall.make("over", (giver(0),))
        hall.ask(1, SEND)
        self.assertEqual((CHAINS, codes_of(CHAINS)), (book, codes))


class AlikeTest(unittest.TestCase):
    """The walker's hall and machine's halls, made and asked alike."""

    def same(self, halls, message=None):
        first = told(halls[0])
        for hall in halls[1:]:
            self.assertEqual(told(hall), first, message)
            self.assertEqual(hall.hops(), halls[1].hops(), message)

    def test_lively_books(self):
        counts = {}
        for seed in range(1000, 1350):
            lively = Lively(seed)
            book, most = lively.book(), most_of(seed)
            halls = halls_of(book, most)
            for turn in range(14):
                if turn in (0, 1, 2, 3, 9) and halls[0].many() < 100:
                    made = lively.making(halls[0].many())
                    self.assertEqual(len({hall.make(*made) for hall in halls}), 1)
                asked = lively.asking(halls[0].many())
                before = [whole(hall) for hall in halls]
                answers = [hall.ask(*asked) for hall in halls]
                self.assertEqual(answers, answers[:1] * len(halls), seed)
                self.same(halls, seed)
                if answers[0] == STOPPED:
                    self.assertEqual([whole(hall) for hall in halls], before)
                counts[answers[0][0]] = counts.get(answers[0][0], 0) + 1
            record = halls[1].record()
            self.assertTrue(lets_record(book, (), record))
            hops = Hops().follow(record)
            self.assertEqual((halls[0].hops(), halls[1].hops()), (hops.walker, hops.machine))
            self.assertLessEqual(hops.machine, hops.bound())
            for row in record:
                counts[row[0]] = counts.get(row[0], 0) + 1
        for word, least in (("stopped", 80), ("closed", 50), ("given", 600), ("back", 30), ("hit", 30), ("told", 200),
                            ("ring", 10), ("last", 200), ("end", 60), ("out", 200), ("try", 200)):
            self.assertGreater(counts[word], least, word)

    def test_all_ways_out_of_a_try(self):
        text = "rule main()\n while 1\n  try\n   try\n    x = give 1\n    {}\n   catch w y\n    x = give 2\n    {}\n   last\n    x = give 3\n    {}\n  last\n   x = give 4\n   note 5"
        ways = ("note 1", "end 6", "fault w 7", "fault v 8", "leave")
        for first in ways:
            for second in ways:
                for third in ways:
                    book = read_book(text.format(first, second, third))
                    for hows in ((SEND,) * 4, (fault("w", 1), SEND, CLOSE, SEND), (CLOSE, fault("w", 2), send(3), SEND)):
                        halls = halls_of(book, 300)
                        for hall in halls:
                            hall.make("main", ())
                        for how in (SEND,) + hows:
                            self.assertEqual(len({hall.ask(0, how) for hall in halls}), 1)
                            self.same(halls)

    def test_lasts_to_which_a_guard_leads_through_jumps(self):
        """They are come to by the guard: so nothing but what was raised is to come behind them."""
        book = read_book("rule main()\n try\n  fault w 1\n last\n  note 2\n note 3")
        rows = (("open", (0,)), ("fault", (0, 0, 0)), ("jump", 3), ("jump", 4), ("last", (0,)), ("deed", (0, 1, 0)),
                ("resume", (0,), -1), ("deed", (1,)), ("done",))
        for last in (2, 3, 4):
            hall = CodeHall(book, ((rows, ((1, 2, (0,), (), last),)),), 300)
            hall.make("main", ())
            self.assertEqual(hall.ask(0, SEND), fault("w", 1))
            self.assertEqual(hall.record()[2:5], (("try", 0, 0), ("last", 0, 0), ("note", 0, number(2))))

    def test_a_jump_to_lasts_is_no_guard(self):
        book = read_book("rule main()\n try\n  note 1\n last\n  note 2\n note 3")
        rows = (("jump", 1), ("open", (0,)), ("deed", (0, 0, 0)), ("jump", 4), ("jump", 5), ("last", (0,)),
                ("deed", (0, 1, 0)), ("resume", (0,), -1), ("deed", (1,)), ("done",))
        hall = CodeHall(book, ((rows, ((2, 3, (0,), (), 4),)),), 300)
        hall.make("main", ())
        self.assertEqual(hall.ask(0, SEND), ended())
        self.assertEqual([row[2] for row in hall.record() if row[0] == "note"], [number(1), number(2), number(3)])

    def test_steps_are_counted_at_deeds_rows_alone(self):
        book = read_book("rule main()\n try\n  note 1\n last\n  note 2\n note 3")
        own, guards = code_of(book[0])
        self.assertFalse({"test", "jump", "leave"} & {row[0] for row in own})
        rows = tuple(("jump", at + 1) for at in range(200)) + own
        guards = tuple((first + 200, beyond + 200, place, catches, last + 200)
                       for first, beyond, place, catches, last in guards)
        for most, answer in ((3, STOPPED), (4, ended())):
            hall = CodeHall(book, ((rows, guards),), most)
            hall.make("main", ())
            self.assertEqual(hall.ask(0, SEND), answer)
            self.assertEqual(hall.steps(), 4 if answer != STOPPED else 0)

    def test_rules_of_every_form_by_every_ask(self):
        hows = (SEND, send(1), fault("w", 2), fault("v", 3), CLOSE, send(0))
        for rule in (RULE, NESTED):
            for seed in range(6 ** 3):
                halls = halls_of((rule,), 60)
                for hall in halls:
                    hall.make("main", ())
                for how in (SEND, hows[seed % 6], hows[seed // 6 % 6], hows[seed // 36], SEND):
                    self.assertEqual(len({hall.ask(0, how) for hall in halls}), 1)
                self.same(halls)

    def test_a_giver_made_amid(self):
        halls = halls_of(CHAINS, 300)
        for hall in halls:
            hall.make("count", (number(3),))
            hall.make("over", (giver(0),))
        for turn in range(5):
            self.assertEqual(len({hall.ask(hall.many() - 1, send(turn)) for hall in halls}), 1)
            self.assertEqual(len({hall.make("over", (giver(hall.many() - 1),)) for hall in halls}), 1)
            self.same(halls)

    def test_what_was_told_stays(self):
        hall = CodeHall(CHAINS, codes_of(CHAINS), 300)
        hall.make("count", (number(3),))
        hall.make("over", (giver(0),))
        hall.ask(1, SEND)
        first = (hall.record(), hall.keep(), hall.chain(1), hall.state(1), hall.worths(0))
        before = copy.deepcopy(first)
        for how in (SEND, CLOSE, SEND):
            hall.ask(1, how)
        self.assertEqual(first, before)
        first[2].append(5)
        self.assertEqual(hall.chain(1), [1])
        self.assertEqual({type(thing) for thing in (hall.record(), hall.keep(), hall.worths(0), hall.state(0))}, {tuple})


class HopsTest(unittest.TestCase):
    """Promise 22: rows of links."""

    def chained(self, many, most=300, worth=30):
        """A machine's hall with a chain of so many, and a walker's."""
        halls = [CodeHall(CHAINS, codes_of(CHAINS), most), TreeHall(CHAINS, most)]
        for hall in halls:
            hall.make("count", (number(worth),))
            for k in range(many - 1):
                hall.make("over", (giver(k),))
        return halls

    def asked(self, halls, k, how=SEND):
        """Asks both; tells the answer, the hops that the machine's took, and those that the walker's took."""
        before = [hall.hops() for hall in halls]
        answers = [hall.ask(k, how) for hall in halls]
        self.assertEqual(answers[0], answers[1])
        self.assertEqual(told(halls[0]), told(halls[1]))
        hops = Hops().follow(halls[0].record())
        self.assertEqual([hall.hops() for hall in halls], [hops.machine, hops.walker])
        self.assertLessEqual(hops.machine, hops.bound())
        return (answers[0], halls[0].hops() - before[0], halls[1].hops() - before[1])

    def test_one_alone(self):
        halls = self.chained(1)
        for n in range(30, 0, -1):
            self.assertEqual(self.asked(halls, 0), (given(n), 1, 1))
        self.assertEqual(self.asked(halls, 0), (ended(50), 1, 1))
        self.assertEqual(self.asked(halls, 0), (ended(), 1, 1))

    def test_chains_of_one_to_a_hundred(self):
        for many in range(1, 101):
            halls = self.chained(many)
            # First each is found while it is new; then the asked one's row is put together; then it stays.
            self.assertEqual(self.asked(halls, many - 1), (given(30), many, many))
            self.assertEqual(self.asked(halls, many - 1), (given(29), many, many))
            for n in range(28, 22, -1):
                self.assertEqual(self.asked(halls, many - 1), (given(n), 1, many))

    def test_a_chain_of_a_hundred_asked_often(self):
        halls = self.chained(100, worth=300)
        for _ in range(300):
            halls[0].ask(99, SEND)
        self.assertEqual(halls[0].hops(), 100 + 100 + 298)
        self.assertEqual(halls[0].steps(), 99 + 2 + 3 * 299)

    def test_shared_by_several(self):
        """Each that is asked has a row of its own."""
        halls = self.chained(5)
        for hall in halls:
            for k in (4, 4, 2):
                hall.make("over", (giver(k),))
        self.assertEqual(self.asked(halls, 4), (given(30), 5, 5))
        # 5 hands on to 4, whose row is put together.
        self.assertEqual(self.asked(halls, 5), (given(29), 1 + 5, 6))
        self.assertEqual(self.asked(halls, 6), (given(28), 1 + 1, 6))
        self.assertEqual(self.asked(halls, 7), (given(27), 1 + 3, 4))
        self.assertEqual([self.asked(halls, k)[1] for k in (4, 5, 6, 7)], [1, 6, 6, 4])
        self.assertEqual([self.asked(halls, k)[1] for k in (4, 5, 6, 7, 3, 2, 0)], [1, 1, 1, 1, 4, 1, 1])
        self.assertEqual([self.asked(halls, k)[1] for k in (3, 2, 1, 0)], [1, 1, 2, 1])

    def test_undone_links_are_taken_off(self):
        halls = self.chained(4, worth=3)
        self.assertEqual([self.asked(halls, 3)[1] for _ in range(3)], [4, 4, 1])
        self.assertEqual(self.asked(halls, 2), (ended(50), 3, 3))
        # 2 has ended, and with it 1 and 0: of the row of 3 its own handing on, to 2, is left.
        self.assertEqual(halls[0].state(3), ("hands on", 1, 2))
        self.assertEqual(self.asked(halls, 3), (ended(), 1 + 2, 2))
        # That one is no more now.
        self.assertEqual(self.asked(halls, 3), (ended(), 1 + 1, 1))
        self.assertEqual(self.asked(halls, 3), (ended(), 1, 1))
        self.assertEqual(self.asked(halls, 2), (ended(), 1 + 2, 1))

    def anew(self):
        """Halls in which 5 hands on to 4, which catches faults of the word w and then hands on to whom it is sent."""
        halls = [CodeHall(CHAINS, codes_of(CHAINS), 300), TreeHall(CHAINS, 300)]
        for hall in halls:
            for worth in (2, 5, 5):
                hall.make("count", (number(worth),))
            hall.make("over", (giver(0),))
            hall.make("often", (giver(3),))
            hall.make("over", (giver(4),))
        return halls

    def test_made_anew(self):
        halls = self.anew()
        # 5 -> 4 -> 3 -> 0.
        self.assertEqual(self.asked(halls, 5), (given(2), 4, 4))
        self.assertEqual(self.asked(halls, 5), (given(1), 4, 4))
        self.assertEqual(self.asked(halls, 5, fault("w", 1)), (given(7), 1, 4))
        # 4 gives now: two links of 5's row are no more.
        self.assertEqual(halls[0].chain(5), [5, 4])
        self.assertEqual(self.asked(halls, 5, ("send", giver(1))), (given(5), 1 + 2 + 1, 2 + 1))
        self.assertEqual(halls[0].chain(5), [5, 4, 1])
        self.assertEqual(self.asked(halls, 5), (given(4), 1 + 1, 3))
        # 4 is asked by itself, and hands on to another one: its first link of old is another one than that.
        self.assertEqual(self.asked(halls, 4, fault("w", 1)), (given(7), 1 + 1, 2))
        self.assertEqual(self.asked(halls, 4, ("send", giver(2))), (given(5), 1 + 1 + 1, 1 + 1))
        self.assertEqual(halls[0].chain(5), [5, 4, 2])
        self.assertEqual(self.asked(halls, 5), (given(4), 1 + 1 + 1, 3))
        self.assertEqual(self.asked(halls, 5), (given(3), 1, 3))
        self.assertEqual(self.asked(halls, 4), (given(2), 1 + 1, 2))

    def test_stopped_asks_leave_rows_of_links(self):
        halls = self.anew()
        for _ in range(2):
            self.asked(halls, 5)
        # The end ends, so does 3; 4 hands on to it again and again.
        for _ in range(3):
            before = [whole(hall) for hall in halls]
            self.assertEqual(self.asked(halls, 5), (STOPPED, 0, 0))
            self.assertEqual([whole(hall) for hall in halls], before)
        # Nothing was taken off in these: so nothing is put on.
        self.assertEqual(self.asked(halls, 5, fault("v", 1))[1:], (1, 4))
        # A stopped ask that puts links on: 4's row is as short as it was.
        halls = self.anew()
        self.asked(halls, 5)
        self.asked(halls, 5)
        self.assertEqual(self.asked(halls, 4), (STOPPED, 0, 0))
        self.assertEqual(self.asked(halls, 4, fault("w", 1)), (given(7), 1 + 2, 3))

    def test_givers_that_are_gone_with_a_stopped_ask(self):
        book = read_book("rule main(n)\n x = on make leaf(n)\n end x\nrule leaf(n)\n x = give n\n while x\n  note 1\n end 3")
        halls = [CodeHall(book, codes_of(book), 20), TreeHall(book, 20)]
        for hall in halls:
            hall.make("main", (number(1),))
            hall.make("main", (number(2),))
        self.assertEqual(self.asked(halls, 0), (given(1), 2, 2))
        self.assertEqual(self.asked(halls, 0, send(1)), (STOPPED, 0, 0))
        self.assertEqual(self.asked(halls, 1), (given(2), 2, 2))
        self.assertEqual(self.asked(halls, 0, send(1)), (STOPPED, 0, 0))
        self.assertEqual(self.asked(halls, 0, send(0)), (ended(3), 1 + 1, 2))
        self.assertEqual(halls[0].many(), 4)

    def test_rings_are_finds_too(self):
        book = read_book("rule main()\n g = give 1\n while 1\n  try\n   x = on g\n  catch any y\n   g = give 2")
        halls = [CodeHall(book, codes_of(book), 300), TreeHall(book, 300)]
        for hall in halls:
            for _ in range(4):
                hall.make("main", ())
        for k in range(4):
            self.asked(halls, k)
        for k in range(3):
            self.asked(halls, k, ("send", giver(k + 1)))
        # 0 -> 1 -> 2 -> 3, and 3 would hand on to 0: 0's row of links is put together at the ring.
        self.assertEqual(self.asked(halls, 3, ("send", giver(0))), (given(2), 1 + 1 + 3, 1 + 4))
        self.assertEqual(self.asked(halls, 3, ("send", giver(0))), (given(2), 1 + 1, 1 + 4))
        self.assertEqual(self.asked(halls, 0, ("send", giver(3))), (given(2), 1 + 1, 4 + 1))

    def test_asks_within_asks_are_finds_too(self):
        book = CHAINS + read_book("rule asks(g)\n while 1\n  x, y = ask g, 1\n  x = give x")
        halls = [CodeHall(book, codes_of(book), 300), TreeHall(book, 300)]
        for hall in halls:
            hall.make("count", (number(9),))
            hall.make("over", (giver(0),))
            hall.make("over", (giver(1),))
            hall.make("asks", (giver(2),))
        self.assertEqual(self.asked(halls, 3), (given(9), 1 + 1 + 2, 1 + 1 + 2))
        self.assertEqual(self.asked(halls, 3), (given(8), 1 + 1 + 2, 1 + 3))
        self.assertEqual(self.asked(halls, 3), (given(7), 1 + 1, 1 + 3))

    def test_the_mean_is_no_more_the_longer_the_chain_is(self):
        for many in (2, 10, 50, 100):
            halls = self.chained(many, worth=10 ** 20)
            for _ in range(1000):
                halls[0].ask(many - 1, SEND)
            self.assertLessEqual(halls[0].hops(), 1000 + 2 * many)


if __name__ == "__main__":
    unittest.main()
