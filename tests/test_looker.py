"""Promise 24: which records are let by, which tries are open and who hands on to whom at their end."""

import copy
import random
import unittest

from handedon.looker import leans_in, lets_record, open_in
from handedon.reader import read_book
from handedon.treehall import TreeHall
from tests.halling import CLOSE, CLOSED, NONE, SEND, ended, fault, given, giver, number, send
from tests.lively import Lively, most_of
from tests.samples import ODD, changed_at, part_at, paths_in
from tests.second_looker import second_look

BOOK = read_book("rule main()\n end none")
TRIES = read_book("""rule main(g)
 try
  x = give 1
  try
   try
    x = give 2
   catch w y
    x = on g
  last
   x = give 3
 last
  try
   x = on g
  last
   x = give 4""")
OTHERS = [None, True, False, 0, 1, 2, 99, 100, -1, "", "w", "close", "any", (), NONE, [], ("number", True), ("number", 0),
          ("number", 10 ** 30), giver(1), giver(100), ("given", NONE), ("stopped",), CLOSED, CLOSE, ((0, "on"),), ((0, "ask"),)]


def lively_hall(seed, asks):
    """A hall of a lively book behind so many asks."""
    lively = Lively(seed)
    hall = TreeHall(lively.book(), most_of(seed))
    for number in range(asks):
        if number < 4 and hall.many() < 100:
            hall.make(*lively.making(hall.many()))
        hall.ask(*lively.asking(hall.many()))
    return lively, hall


class Case(unittest.TestCase):
    kept = ()
    book = BOOK

    def lets(self, *rows):
        self.assertTrue(second_look(self.book, self.kept, rows), rows)
        self.assertTrue(lets_record(self.book, self.kept, rows), rows)

    def shuts(self, *rows):
        self.assertFalse(lets_record(self.book, self.kept, rows), rows)
        self.assertFalse(second_look(self.book, self.kept, rows), rows)

    def run_rows(self, *rows):
        """Giver 0 is asked, begins, has these rows, and ends."""
        return (("asked", 0, SEND), ("begin", 0)) + rows + (("end", 0, NONE), ("answered", ended()))


class RowTest(Case):
    def test_without_rows(self):
        self.lets()

    def test_whatever_thing(self):
        for thing in ODD:
            if thing != ():
                self.assertIs(lets_record(BOOK, (), thing), False)
                self.assertIs(lets_record(BOOK, (), (thing,)), False)
                self.assertIs(lets_record(BOOK, (), self.run_rows(thing)), False)
        self.assertIs(lets_record(BOOK, (), list(self.run_rows())), False)
        self.assertIs(lets_record(BOOK, (), tuple(map(list, self.run_rows()))), False)
        self.assertIs(lets_record(BOOK, (), self.run_rows()), True)

    def test_a_new_one_sent(self):
        self.lets(*self.run_rows())
        self.shuts(("asked", 0, SEND), ("end", 0, NONE), ("answered", ended()))
        self.shuts(("asked", 0, SEND), ("begin", 1), ("end", 1, NONE), ("answered", ended()))
        self.shuts(*self.run_rows(("begin", 0)))
        self.shuts(("begin", 0), ("end", 0, NONE))

    def test_a_new_one_by_a_fault(self):
        for how, out, answer in ((fault("w", 3), ("w", number(3)), fault("w", 3)), (CLOSE, ("close", NONE), CLOSED),
                                 (fault("close", 3), ("close", number(3)), fault("close", 3))):
            self.lets(("asked", 0, how), ("out", 0) + out, ("answered", answer))
            self.shuts(("asked", 0, how), ("begin", 0), ("out", 0) + out, ("answered", answer))
            self.shuts(("asked", 0, how), ("out", 0, "v", NONE), ("answered", answer))
            self.shuts(("asked", 0, how), ("out", 0) + out, ("answered", fault("v")))
            self.shuts(("asked", 0, how), ("answered", answer))
        self.shuts(("asked", 0, SEND), ("out", 0, "w", NONE), ("answered", fault("w")))

    def test_an_ended_one(self):
        rows = self.run_rows()
        self.lets(*rows, ("asked", 0, send(4)), ("answered", ended()))
        self.lets(*rows, ("asked", 0, fault("w", 4)), ("answered", fault("w", 4)))
        self.lets(*rows, ("asked", 0, CLOSE), ("answered", CLOSED))
        self.shuts(*rows, ("asked", 0, send(4)), ("answered", ended(4)))
        self.shuts(*rows, ("asked", 0, send(4)), ("begin", 0), ("end", 0, NONE), ("answered", ended()))
        self.shuts(*rows, ("asked", 0, send(4)), ("end", 0, NONE), ("answered", ended()))
        self.shuts(*rows, ("asked", 0, fault("w")), ("out", 0, "w", NONE), ("answered", fault("w")))

    def test_a_begun_one_runs(self):
        rows = (("asked", 0, SEND), ("begin", 0), ("give", 0, number(1)), ("answered", given(1)))
        self.lets(*rows)
        for how in (send(5), fault("w", 5)):
            self.lets(*rows, ("asked", 0, how), ("note", 0, NONE), ("give", 0, NONE), ("answered", ("given", NONE)))
            self.lets(*rows, ("asked", 0, how), ("end", 0, NONE), ("answered", ended()))
            self.shuts(*rows, ("asked", 0, how), ("begin", 0), ("end", 0, NONE), ("answered", ended()))
            self.shuts(*rows, ("asked", 0, how), ("answered", given(1)))

    def test_answers_to_a_close(self):
        rows = (("asked", 0, SEND), ("begin", 0), ("give", 0, number(1)), ("answered", given(1)), ("asked", 0, CLOSE))
        for row, answer in ((("give", 0, number(2)), fault("gives")), (("end", 0, number(2)), CLOSED),
                            (("out", 0, "close", number(2)), CLOSED), (("out", 0, "w", number(2)), fault("w", 2))):
            self.lets(*rows, row, ("answered", answer))
            for other in (given(2), ended(2), fault("close", 2), fault("gives", 2), fault("gives"), CLOSED, fault("w", 2)):
                if other != answer:
                    self.shuts(*rows, row, ("answered", other))

    def test_answers_are_what_came(self):
        for row, answer in ((("give", 0, number(2)), given(2)), (("end", 0, number(2)), ended(2)),
                            (("out", 0, "close", number(2)), fault("close", 2))):
            rows = (("asked", 0, SEND), ("begin", 0), row)
            self.lets(*rows, ("answered", answer))
            for other in (given(2), given(3), ended(2), ended(), fault("close", 2), fault("close"), CLOSED, ("stopped",)):
                if other != answer:
                    self.shuts(*rows, ("answered", other))
            self.shuts(*rows, ("told", 0, answer))

    def test_who_runs_and_no_other(self):
        for row in (("note", 0, NONE), ("try", 0, 0), ("ring", 0, ((0, "on"),))):
            other = (row[0], 1) + row[2:]
            self.shuts(row)
            self.shuts(*self.run_rows(other))
            self.shuts(("asked", 0, SEND), row, ("begin", 0), ("end", 0, NONE), ("answered", ended()))
            self.shuts(*self.run_rows(), row)
        self.shuts(("asked", 0, SEND), ("begin", 0), ("end", 1, NONE), ("answered", ended()))
        self.shuts(("asked", 0, SEND), ("begin", 0), ("give", 1, NONE), ("answered", ("given", NONE)))

    def test_it_ends_behind_an_answered_alone(self):
        rows = self.run_rows(("note", 0, NONE)) + (("asked", 0, SEND), ("answered", ended()))
        for many in range(len(rows)):
            self.assertEqual(lets_record(BOOK, (), rows[:many]), many in (0, 5), many)
        self.shuts(*rows, ("answered", ended()))
        self.shuts(("answered", ended()))

    def test_an_ask_from_outside_only_where_nothing_runs(self):
        self.shuts(*self.run_rows(("asked", 1, SEND)))
        self.shuts(("asked", 0, SEND), ("asked", 0, SEND), ("begin", 0), ("end", 0, NONE), ("answered", ended()))

    def test_tries(self):
        self.lets(*self.run_rows(("try", 0, 3), ("last", 0, 3)))
        self.lets(*self.run_rows(("try", 0, 3), ("try", 0, 1), ("last", 0, 1), ("last", 0, 3)))
        self.lets(*self.run_rows(("try", 0, 3), ("last", 0, 3), ("try", 0, 3), ("last", 0, 3)))
        self.lets(*self.run_rows(("try", 0, 0), ("last", 0, 0), ("try", 0, 29), ("last", 0, 29)))
        self.shuts(*self.run_rows(("try", 0, 3)))
        self.shuts(*self.run_rows(("last", 0, 3)))
        self.shuts(*self.run_rows(("try", 0, 3), ("try", 0, 3), ("last", 0, 3), ("last", 0, 3)))
        self.shuts(*self.run_rows(("try", 0, 3), ("try", 0, 1), ("last", 0, 3), ("last", 0, 1)))
        self.shuts(*self.run_rows(("try", 0, 3), ("last", 0, 3), ("last", 0, 3)))
        self.shuts(*self.run_rows(("try", 0, 3), ("last", 0, 1)))
        self.shuts(("asked", 0, SEND), ("begin", 0), ("try", 0, 0), ("out", 0, "w", NONE), ("answered", fault("w")))
        self.lets(("asked", 0, SEND), ("begin", 0), ("try", 0, 0), ("give", 0, NONE), ("answered", ("given", NONE)))

    def test_numbers(self):
        for k in (0, 99):
            self.lets(("asked", k, CLOSE), ("out", k, "close", NONE), ("answered", CLOSED))
        for k in (100, -1, True, False, "0", None, (0,)):
            self.shuts(("asked", k, CLOSE), ("out", k, "close", NONE), ("answered", CLOSED))
            self.shuts(*self.run_rows(("note", 0, ("giver", k))))
        for m in (30, -1, True, False, "0", None):
            self.shuts(*self.run_rows(("try", 0, m), ("last", 0, m)))
        # A truth is no whole number, also where the one that must come has it.
        self.shuts(("asked", 1, SEND), ("begin", True), ("end", 1, NONE), ("answered", ended()))
        self.shuts(("asked", 1, SEND), ("begin", 1), ("end", True, NONE), ("answered", ended()))
        self.shuts(("asked", 0, SEND), ("begin", 0), ("end", 0, number(1)), ("answered", ("ended", ("number", True))))
        self.shuts(*self.run_rows(("ring", 0, ((False, "on"),))))
        self.lets(*self.run_rows(("note", 0, giver(99)), ("note", 0, number(10 ** 30 - 1))))
        self.shuts(*self.run_rows(("note", 0, number(10 ** 30))))


class LeaningTest(Case):
    def test_on_and_back(self):
        rows = (("asked", 0, SEND), ("begin", 0), ("on", 0, 5), ("begin", 5))
        tail = (("end", 0, NONE), ("answered", ended()))
        self.lets(*rows, ("end", 5, number(3)), ("back", 0, number(3)), *tail)
        self.lets(*rows, ("out", 5, "w", number(3)), ("hit", 0, "w", number(3)), *tail)
        self.shuts(*rows, ("end", 5, number(3)), *tail)
        self.shuts(*rows, ("end", 5, number(3)), ("back", 0, number(4)), *tail)
        self.shuts(*rows, ("end", 5, number(3)), ("back", 1, number(3)), *tail)
        self.shuts(*rows, ("end", 5, number(3)), ("hit", 0, "w", number(3)), *tail)
        self.shuts(*rows, ("out", 5, "w", number(3)), ("back", 0, number(3)), *tail)
        self.shuts(*rows, ("out", 5, "w", number(3)), ("hit", 0, "v", number(3)), *tail)
        self.shuts(*rows, ("end", 5, number(3)), ("answered", ended(3)))
        self.shuts(*rows, ("end", 0, NONE), ("answered", ended()))
        self.shuts(*rows, ("back", 0, NONE), *tail)
        self.shuts(*self.run_rows(("back", 0, NONE)))
        self.shuts(*self.run_rows(("hit", 0, "w", NONE)))

    def test_a_chain_stays_till_it_goes_back(self):
        rows = (("asked", 0, SEND), ("begin", 0), ("on", 0, 1), ("begin", 1), ("on", 1, 2), ("begin", 2), ("give", 2, NONE),
                ("answered", ("given", NONE)))
        self.lets(*rows)
        self.assertEqual(leans_in(BOOK, (), rows), [(0, 1), (1, 2)])
        for k in (0, 1, 2):
            again = rows + (("asked", k, CLOSE), ("give", 2, NONE), ("answered", fault("gives")))
            self.lets(*again)
            self.assertEqual(leans_in(BOOK, (), again), [(0, 1), (1, 2)])
        through = rows + (("asked", 1, SEND), ("end", 2, NONE), ("back", 1, NONE), ("give", 1, NONE), ("answered", ("given", NONE)))
        self.lets(*through)
        self.assertEqual(leans_in(BOOK, (), through), [(0, 1)])
        self.shuts(*rows, ("asked", 1, SEND), ("end", 2, NONE), ("back", 1, NONE), ("back", 0, NONE), ("give", 0, NONE),
                   ("answered", ("given", NONE)))
        # Once the middle one has ended, the first meets an ended one.
        met = through + (("asked", 1, CLOSE), ("end", 1, NONE), ("answered", CLOSED), ("asked", 0, send(3)))
        self.lets(*met, ("back", 0, NONE), ("give", 0, NONE), ("answered", ("given", NONE)))
        self.shuts(*met, ("give", 0, NONE), ("answered", ("given", NONE)))
        self.shuts(*met, ("back", 0, number(3)), ("give", 0, NONE), ("answered", ("given", NONE)))

    def test_on_to_an_ended_one(self):
        rows = (("asked", 7, CLOSE), ("out", 7, "close", NONE), ("answered", CLOSED))
        self.lets(*rows, *self.run_rows(("on", 0, 7), ("back", 0, NONE)))
        self.shuts(*rows, *self.run_rows(("on", 0, 7)))
        self.shuts(*rows, *self.run_rows(("on", 0, 7), ("end", 7, NONE), ("back", 0, NONE)))

    def test_ask_and_told(self):
        ask = (("ask", 0, 1, send(3)), ("begin", 1))
        self.lets(*self.run_rows(*ask, ("give", 1, number(4)), ("told", 0, given(4))))
        self.lets(*self.run_rows(*ask, ("end", 1, number(4)), ("told", 0, ended(4))))
        self.lets(*self.run_rows(*ask, ("out", 1, "w", number(4)), ("told", 0, fault("w", 4))))
        self.lets(*self.run_rows(("ask", 0, 1, CLOSE), ("out", 1, "close", NONE), ("told", 0, CLOSED)))
        self.shuts(*self.run_rows(*ask, ("give", 1, number(4)), ("told", 1, given(4))))
        self.shuts(*self.run_rows(*ask, ("give", 1, number(4)), ("told", 0, given(5))))
        self.shuts(*self.run_rows(*ask, ("give", 1, number(4)), ("answered", given(4))))
        self.shuts(*self.run_rows(*ask, ("give", 1, number(4))))
        self.shuts(*self.run_rows(*ask, ("told", 0, given(4))))
        self.shuts(*self.run_rows(("ask", 0, 1, send(3)), ("told", 0, given(4))))
        self.shuts(*self.run_rows(("ask", 1, 2, send(3)), ("begin", 2), ("end", 2, NONE), ("told", 1, ended())))

    def test_twelve_asks_and_one_more(self):
        def nest(k, many):
            if k == many:
                return ()
            return (("ask", k - 1, k, SEND), ("begin", k)) + nest(k + 1, many) + (("end", k, NONE), ("told", k - 1, ended()))
        self.lets(*self.run_rows(*nest(1, 12)))
        self.shuts(*self.run_rows(*nest(1, 13)))

    def test_on_and_ask_to_one_in_the_midst(self):
        self.shuts(*self.run_rows(("on", 0, 0)))
        self.shuts(*self.run_rows(("on", 0, 0), ("back", 0, NONE)))
        self.shuts(*self.run_rows(("ask", 0, 0, SEND), ("told", 0, ended())))
        for deed in (("on", 1, 0), ("ask", 1, 0, SEND)):
            self.shuts(*self.run_rows(("on", 0, 1), ("begin", 1), deed))
            self.shuts(*self.run_rows(("ask", 0, 1, SEND), ("begin", 1), deed))

    def test_rings(self):
        self.lets(*self.run_rows(("ring", 0, ((0, "on"),)), ("ring", 0, ((0, "ask"),))))
        for ring in ((), ((1, "on"),), ((0, "on"), (0, "on")), ((0, "on"), (1, "on")), ((0, "by"),), (0, "on"), ((0,),),
                     [(0, "on")], ([0, "on"],), ((0, "on", 1),), ((0, "on"), None)):
            self.shuts(*self.run_rows(("ring", 0, ring)))

    def test_rings_over_the_midst(self):
        def rows(ring):
            return self.run_rows(("on", 0, 1), ("begin", 1), ("ask", 1, 2, SEND), ("begin", 2), ("ring", 2, ring),
                                 ("end", 2, NONE), ("told", 1, ended()), ("end", 1, NONE), ("back", 0, NONE))
        for word in ("on", "ask"):
            for rest in ((), ((1, "ask"),), ((0, "on"), (1, "ask"))):
                self.lets(*rows(((2, word),) + rest))
            for rest in (((1, "on"),), ((0, "on"),), ((0, "ask"), (1, "ask")), ((1, "ask"), (0, "on")), ((3, "on"), (1, "ask"))):
                self.shuts(*rows(((2, word),) + rest))

    def test_rings_over_others(self):
        """3 hands on to 4, which hands on to 0: so 0 may be told with them."""
        before = (("asked", 3, SEND), ("begin", 3), ("on", 3, 4), ("begin", 4), ("on", 4, 0), ("begin", 0), ("give", 0, NONE),
                  ("answered", ("given", NONE)), ("asked", 0, SEND))
        tail = (("give", 0, NONE), ("answered", ("given", NONE)))
        for ring in (((0, "on"),), ((0, "on"), (4, "on")), ((0, "ask"), (3, "on"), (4, "on"))):
            self.lets(*before, ("ring", 0, ring), *tail)
        for ring in (((0, "on"), (3, "on")), ((0, "on"), (4, "ask")), ((0, "on"), (4, "on"), (3, "on")), ((0, "on"), (5, "on"))):
            self.shuts(*before, ("ring", 0, ring), *tail)
        self.shuts(*before, ("on", 0, 3), *tail)
        self.shuts(*before, ("ask", 0, 4, SEND), *tail)


class KeptTest(Case):
    book = TRIES

    def stands(self, n, pendings=(), inner=None):
        """A kept tuple with an ended one, a new one, and a third that stands."""
        self.kept = (("main", ("ended",), ()), ("main", ("new",), (NONE,) * 3),
                     ("main", ("stands", n, pendings, inner), (NONE,) * 3))

    def test_open_tries(self):
        for n, pendings, inner, tries in ((1, (), None, [0]), (2, (), None, [0, 1]), (3, (), 0, [0, 1]), (4, (("go",),), None, [0]),
                                          (5, (("go",),), 1, [2]), (6, (("go",), ("go",)), None, [])):
            self.stands(n, pendings, inner)
            self.assertEqual(open_in(TRIES, self.kept, (), 2), tries, n)
            self.assertEqual([open_in(TRIES, self.kept, (), k) for k in (0, 1, 3, 99)], [[]] * 4)
            self.assertEqual(leans_in(TRIES, self.kept, ()), [] if inner is None else [(2, inner)])

    def test_from_there_on(self):
        self.stands(2)
        ends = (("last", 2, 1), ("last", 2, 0), ("end", 2, NONE), ("answered", ended()))
        self.lets(("asked", 2, SEND), *ends)
        self.shuts(("asked", 2, SEND), ("begin", 2), *ends)
        self.shuts(("asked", 2, SEND), *ends[1:])
        self.shuts(("asked", 2, SEND), *ends[:1], *ends[2:])
        self.shuts(("asked", 2, SEND), ("try", 2, 1), *ends)
        self.lets(("asked", 2, SEND), ("last", 2, 1), ("try", 2, 1), *ends)
        self.lets(("asked", 0, SEND), ("answered", ended()))
        self.shuts(("asked", 0, SEND), ("begin", 0), ("end", 0, NONE), ("answered", ended()))
        for k in (1, 3, 50):
            self.lets(("asked", k, SEND), ("begin", k), ("end", k, NONE), ("answered", ended()))
            self.shuts(("asked", k, SEND), ("end", k, NONE), ("answered", ended()))

    def test_handing_on_from_there(self):
        self.stands(3, (), 0)
        self.lets(("asked", 2, SEND), ("back", 2, NONE), ("give", 2, NONE), ("answered", ("given", NONE)))
        self.lets(("asked", 2, fault("w", 3)), ("hit", 2, "w", number(3)), ("give", 2, NONE), ("answered", ("given", NONE)))
        self.shuts(("asked", 2, SEND), ("give", 2, NONE), ("answered", ("given", NONE)))
        self.stands(3, (), 1)
        self.lets(("asked", 2, SEND), ("begin", 1), ("give", 1, NONE), ("answered", ("given", NONE)))
        self.lets(("asked", 1, SEND), ("begin", 1), ("ring", 1, ((1, "on"), (2, "on"))), ("give", 1, NONE),
                  ("answered", ("given", NONE)))
        self.shuts(("asked", 1, SEND), ("begin", 1), ("on", 1, 2), ("give", 1, NONE), ("answered", ("given", NONE)))

    def test_open_at_the_end_in_the_order_of_opening(self):
        self.stands(2)
        rows = (("asked", 2, SEND), ("try", 2, 7), ("try", 2, 3), ("last", 2, 3), ("try", 2, 5), ("give", 2, NONE),
                ("answered", ("given", NONE)))
        self.lets(*rows)
        self.assertEqual(open_in(TRIES, self.kept, rows, 2), [0, 1, 7, 5])
        self.assertEqual(open_in(TRIES, self.kept, rows, 1), [])

    def test_what_is_handed_in_stays_as_it_was_and_answers_are_alike(self):
        self.stands(3, (), 1)
        rows = (("asked", 2, SEND), ("begin", 1), ("try", 1, 0), ("give", 1, NONE), ("answered", ("given", NONE)))
        kept, book = copy.deepcopy(self.kept), copy.deepcopy(TRIES)
        for _ in range(2):
            self.lets(*rows)
            open_in(TRIES, self.kept, rows, 1).append(5)
            leans_in(TRIES, self.kept, rows).append(5)
            self.assertEqual(open_in(TRIES, self.kept, rows, 1), [0])
            self.assertEqual(leans_in(TRIES, self.kept, rows), [(2, 1)])
        self.assertEqual((self.kept, TRIES), (kept, book))
        thing = [["asked", {"a": [1]}], ("x",)]
        before = copy.deepcopy(thing)
        lets_record(TRIES, self.kept, thing)
        lets_record(TRIES, self.kept, tuple(thing))
        self.assertEqual(thing, before)


class HallTest(unittest.TestCase):
    """Records of halls, whole, cut off and changed, from () on and from what a hall kept on."""

    def parts(self, seeds):
        """The book, a kept tuple and the record from there on; the hall at its end; the tries open at its beginning."""
        for seed in seeds:
            lively, hall = lively_hall(seed, 7)
            yield hall.book, (), hall.record(), hall, {}
            kept, before = hall.keep(), hall.record()
            for number in range(6):
                hall.ask(*lively.asking(hall.many()))
            yield hall.book, kept, hall.record()[len(before):], hall, opened(before, {})

    def test_whole_and_cut_off_at_each_row(self):
        for book, kept, record, hall, tries in self.parts(range(60)):
            ends = [0] + [at + 1 for at, row in enumerate(record) if row[0] == "answered"]
            for many in range(len(record) + 1):
                self.assertEqual(lets_record(book, kept, record[:many]), many in ends)

    def test_open_tries_and_leans_at_its_end(self):
        some = 0
        for book, kept, record, hall, tries in self.parts(range(200)):
            leans = [(k, state[1][3]) for k, state in enumerate(hall.keep()) if state[1][0] == "stands" and state[1][3] is not None]
            self.assertEqual(leans_in(book, kept, record), leans)
            tries = opened(record, tries)
            for k in range(hall.many()):
                self.assertEqual(open_in(book, kept, record, k), tries.get(k, []))
                some += len(tries.get(k, []))
        self.assertGreater(some, 50)

    def test_left_out_twice_exchanged(self):
        for book, kept, record, hall, tries in self.parts(range(60)):
            for at in range(len(record)):
                for thing in (record[:at] + record[at + 1:], record[:at + 1] + record[at:],
                              record[:at] + record[at:at + 2][::-1] + record[at + 2:]):
                    self.assertEqual(lets_record(book, kept, thing), second_look(book, kept, thing), (book, kept, thing))

    def test_with_one_part_otherwise(self):
        chance = random.Random(7)
        told = {True: 0, False: 0}
        for book, kept, record, hall, tries in self.parts(range(150)):
            paths = [path for path in paths_in(record) if path]
            for path in chance.sample(paths, min(len(paths), 12)):
                part = part_at(record, path)
                others = chance.sample(OTHERS, 4) + [part_at(record, chance.choice(paths))]
                if isinstance(part, int):
                    others += [part + 1, part - 1]
                for other in others:
                    thing = changed_at(record, path, other)
                    lets = second_look(book, kept, thing)
                    self.assertIs(lets_record(book, kept, thing), lets, (book, kept, thing))
                    told[lets] += 1
        self.assertGreater(told[True], 200)
        self.assertGreater(told[False], 2000)

    def test_from_another_kept_tuple_on(self):
        for book, kept, record, hall, tries in self.parts(range(100)):
            for other in ((), hall.keep()):
                self.assertEqual(lets_record(book, other, record), second_look(book, other, record))


def opened(record, tries):
    """The tries that are open at the record's end, by giver, where these were ahead of it."""
    tries = {k: list(numbers) for k, numbers in tries.items()}
    for row in record:
        if row[0] == "try":
            tries.setdefault(row[1], []).append(row[2])
        elif row[0] == "last":
            tries[row[1]].pop()
    return tries


if __name__ == "__main__":
    unittest.main()
