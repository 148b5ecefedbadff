"""Promises 18 to 23 and 31: handing on, chains, asks within asks, rings, finds, the record, and what is kept."""

import unittest

from handedon.reader import read_book
from tests.halling import (
    CLOSE, CLOSED, GO, NONE, SEND, STOPPED, ended, fault, given, giver, hall_of, note_numbers, number, one_of, send, whole,
)

OVER = """
rule over(g)
 x = on g
 end x"""
COUNT = """rule count(n)
 while (0 < n)
  got = give n
  n = (n - 1)
 end 50"""
WARY = """
rule wary(g)
 try
  x = on g
  note x
 catch any y
  note y
  end 60
 last
  note 70"""
BOTH = COUNT + OVER + WARY


def chain_hall(many, text=BOTH, worths=(number(2),), most=300):
    """A hall with a giver of the first rule, and so many over it, each handing on to the one ahead once it has begun."""
    hall = hall_of(text, most)
    hall.make(read_book(text)[0][0], worths)
    for k in range(many):
        hall.make("over", (giver(k),))
    return hall


class HandingOnTest(unittest.TestCase):
    def test_what_the_end_gives_is_the_answer_through_all_of_the_chain(self):
        hall = chain_hall(2)
        self.assertEqual(hall.ask(2, send(9)), given(2))
        self.assertEqual(hall.chain(2), [2, 1, 0])
        self.assertEqual(hall.chain(1), [1, 0])
        self.assertEqual([hall.state(k) for k in range(3)], [("gives", 1), ("hands on", 1, 0), ("hands on", 1, 1)])
        self.assertEqual(hall.record(), (
            ("asked", 2, send(9)), ("begin", 2), ("on", 2, 1), ("begin", 1), ("on", 1, 0), ("begin", 0),
            ("give", 0, number(2)), ("answered", given(2)),
        ))
        self.assertEqual(hall.ask(2, send(8)), given(1))
        self.assertEqual(hall.worths(0), (number(1), number(8)))
        self.assertEqual(hall.record()[8:], (("asked", 2, send(8)), ("give", 0, number(1)), ("answered", given(1))))

    def test_what_it_ends_with_goes_along_the_asked_chain(self):
        hall = chain_hall(2, worths=(number(1),))
        hall.ask(2, SEND)
        rows = len(hall.record())
        self.assertEqual(hall.ask(2, SEND), ended(50))
        self.assertEqual([hall.state(k) for k in range(3)], [("ended",)] * 3)
        self.assertEqual(hall.record()[rows:], (
            ("asked", 2, SEND), ("end", 0, number(50)), ("back", 1, number(50)), ("end", 1, number(50)),
            ("back", 2, number(50)), ("end", 2, number(50)), ("answered", ended(50)),
        ))

    def test_a_fault_goes_along_the_asked_chain(self):
        hall = chain_hall(2)
        hall.ask(2, SEND)
        rows = len(hall.record())
        self.assertEqual(hall.ask(2, fault("w", 4)), fault("w", 4))
        self.assertEqual(hall.record()[rows:], (
            ("asked", 2, fault("w", 4)), ("out", 0, "w", number(4)), ("hit", 1, "w", number(4)), ("out", 1, "w", number(4)),
            ("hit", 2, "w", number(4)), ("out", 2, "w", number(4)), ("answered", fault("w", 4)),
        ))

    def test_a_fault_is_raised_at_the_on(self):
        hall = hall_of(BOTH)
        hall.make("count", (number(2),))
        hall.make("wary", (giver(0),))
        hall.make("over", (giver(1),))
        hall.ask(2, SEND)
        self.assertEqual(hall.ask(2, fault("w", 4)), ended(60))
        self.assertEqual(note_numbers(hall), [4, 70])
        self.assertEqual(hall.state(2), ("ended",))

    def test_an_ask_in_the_midst_of_a_chain_leaves_those_ahead_handing_on(self):
        hall = chain_hall(2, worths=(number(1),))
        hall.ask(2, SEND)
        self.assertEqual(hall.ask(1, SEND), ended(50))
        self.assertEqual([hall.state(k) for k in range(3)], [("ended",), ("ended",), ("hands on", 1, 1)])
        self.assertEqual(hall.chain(2), [2, 1])
        rows = len(hall.record())
        # It meets one that has ended: sent, it goes on with none.
        self.assertEqual(hall.ask(2, send(3)), ended())
        self.assertEqual(hall.record()[rows:], (
            ("asked", 2, send(3)), ("back", 2, NONE), ("end", 2, NONE), ("answered", ended()),
        ))

    def test_a_fault_or_a_close_that_meets_an_ended_one_is_raised_at_the_on(self):
        for how, answer, row in ((fault("w", 3), fault("w", 3), ("hit", 2, "w", number(3))),
                                 (CLOSE, CLOSED, ("hit", 2, "close", NONE))):
            hall = chain_hall(2, worths=(number(1),))
            hall.ask(2, SEND)
            hall.ask(1, SEND)
            rows = len(hall.record())
            self.assertEqual(hall.ask(2, how), answer)
            self.assertEqual(hall.record()[rows + 1], row)

    def test_on_to_an_ended_one(self):
        hall = hall_of("rule main(g)\n x = on g\n note x\n x = on g\n note x\n x = give 3\nrule quick()\n end 5")
        hall.make("quick", ())
        hall.make("main", (giver(0),))
        self.assertEqual(hall.ask(1, SEND), given(3))
        self.assertEqual(hall.record(), (
            ("asked", 1, SEND), ("begin", 1), ("on", 1, 0), ("begin", 0), ("end", 0, number(5)), ("back", 1, number(5)),
            ("note", 1, number(5)), ("on", 1, 0), ("back", 1, NONE), ("note", 1, NONE), ("give", 1, number(3)),
            ("answered", given(3)),
        ))

    def test_shared_by_several(self):
        hall = hall_of(COUNT + OVER)
        hall.make("count", (number(3),))
        for _ in range(3):
            hall.make("over", (giver(0),))
        self.assertEqual([hall.ask(k, SEND) for k in (1, 2, 3)], [given(3), given(2), given(1)])
        self.assertEqual([hall.chain(k) for k in (1, 2, 3)], [[1, 0], [2, 0], [3, 0]])
        self.assertEqual(hall.ask(2, SEND), ended(50))
        self.assertEqual([hall.state(k)[0] for k in (1, 2, 3)], ["hands on", "ended", "hands on"])
        self.assertEqual(hall.ask(1, SEND), ended())
        self.assertEqual(hall.ask(3, fault("w")), fault("w"))

    def test_one_that_began_already_is_sent_none(self):
        hall = hall_of("rule main()\n x = give 1\n note x\n y = give 2" + OVER)
        hall.make("main", ())
        hall.make("over", (giver(0),))
        hall.ask(0, SEND)
        self.assertEqual(hall.ask(1, send(7)), given(2))
        self.assertEqual(note_numbers(hall), [NONE])

    def test_on_to_a_chain(self):
        hall = chain_hall(2)
        hall.ask(2, SEND)
        k = hall.make("over", (giver(2),))
        self.assertEqual(hall.ask(k, SEND), given(1))
        self.assertEqual(hall.chain(k), [3, 2, 1, 0])
        self.assertEqual(hall.record()[-5:], (
            ("asked", 3, SEND), ("begin", 3), ("on", 3, 2), ("give", 0, number(1)), ("answered", given(1)),
        ))

    def test_a_close_that_the_end_takes(self):
        text = "rule main()\n try\n  x = give 1\n catch close y\n  end 8" + OVER + WARY
        hall = hall_of(text)
        hall.make("main", ())
        hall.make("wary", (giver(0),))
        hall.ask(1, SEND)
        self.assertEqual(hall.ask(1, CLOSE), CLOSED)
        # The one ahead goes on with that worth, it isn't closed by itself.
        self.assertEqual(note_numbers(hall), [8, 70])
        self.assertEqual(hall.record()[-7:], (
            ("end", 0, number(8)), ("back", 1, number(8)), ("note", 1, number(8)), ("last", 1, 0), ("note", 1, number(70)),
            ("end", 1, NONE), ("answered", CLOSED),
        ))

    def test_a_close_to_which_one_further_ahead_gives(self):
        hall = hall_of("rule main()\n x = give 1\nrule ahead(g)\n try\n  x = on g\n catch close y\n  z = give 4")
        hall.make("main", ())
        hall.make("ahead", (giver(0),))
        hall.ask(1, SEND)
        self.assertEqual(hall.ask(1, CLOSE), fault("gives"))
        self.assertEqual((hall.state(0), hall.state(1)), (("ended",), ("gives", 2)))

    def test_on_no_giver(self):
        for expression in ("none", "1", "(1 + none)"):
            hall = one_of(f"rule main()\n try\n  x = on {expression}\n catch kind y\n  note y\n x = give 2")
            self.assertEqual(hall.ask(0, SEND), given(2))
            self.assertEqual(hall.hops(), 1)
            self.assertEqual([row[0] for row in hall.record()], ["asked", "begin", "note", "give", "answered"])

    def test_a_chain_of_a_hundred(self):
        hall = chain_hall(99)
        self.assertEqual(hall.ask(99, SEND), given(2))
        self.assertEqual(hall.chain(99), list(range(99, -1, -1)))
        self.assertEqual((hall.steps(), hall.hops()), (101, 100))
        self.assertEqual(hall.ask(99, SEND), given(1))
        self.assertEqual((hall.steps(), hall.hops()), (104, 200))
        self.assertEqual(hall.ask(99, SEND), ended(50))
        self.assertEqual((hall.steps(), hall.hops(), hall.state(99)), (206, 300, ("ended",)))

    def test_chains_of_each_length(self):
        for many in range(100):
            hall = chain_hall(many)
            self.assertEqual([hall.ask(many, SEND), hall.ask(many, send(4))], [given(2), given(1)])
            self.assertEqual(hall.chain(many), list(range(many, -1, -1)))
            self.assertEqual((hall.steps(), hall.hops()), (many + 5, 2 * (many + 1)))
            self.assertEqual(hall.ask(many, fault("w", 3)), fault("w", 3))
            self.assertEqual([hall.state(k) for k in range(many + 1)], [("ended",)] * (many + 1))

    def test_a_chain_that_would_take_too_many_steps(self):
        hall = chain_hall(99, most=101)
        self.assertEqual(hall.ask(99, SEND), given(2))
        self.assertEqual(hall.ask(99, SEND), given(1))
        before = whole(hall)
        self.assertEqual(hall.ask(99, SEND), STOPPED)
        self.assertEqual(whole(hall), before)
        hall = chain_hall(99, most=100)
        before = whole(hall)
        self.assertEqual(hall.ask(99, SEND), STOPPED)
        self.assertEqual(whole(hall), before)

    def test_the_one_ahead_hands_on_anew(self):
        hall = hall_of("rule main(a, b)\n x = on a\n y = on b\n end (x + y)\nrule quick(n)\n g = give n\n end g")
        hall.make("quick", (number(1),))
        hall.make("quick", (number(2),))
        hall.make("main", (giver(0), giver(1)))
        self.assertEqual(hall.ask(2, SEND), given(1))
        self.assertEqual(hall.ask(2, send(10)), given(2))
        self.assertEqual((hall.state(2), hall.chain(2)), (("hands on", 2, 1), [2, 1]))
        self.assertEqual(hall.ask(2, send(20)), ended(30))


ASKER = """rule main(g, e)
 while 1
  try
   x, y = ask g, e
   note x
   note y
  catch any z
   note z
  e = give 9
rule count(n)
 got = give n
 end got
rule bad()
 fault w 3"""


class AskingTest(unittest.TestCase):
    def test_given_and_ended(self):
        hall = hall_of(ASKER)
        hall.make("count", (number(4),))
        hall.make("main", (giver(0), number(6)))
        hall.ask(1, SEND)
        hall.ask(1, send(7))
        hall.ask(1, send(8))
        self.assertEqual(note_numbers(hall), [4, 1, 7, 0, NONE, 0])
        rows = [row for row in hall.record() if row[0] in ("ask", "told", "begin", "end")]
        self.assertEqual(rows, [
            ("begin", 1), ("ask", 1, 0, send(6)), ("begin", 0), ("told", 1, given(4)),
            ("ask", 1, 0, send(7)), ("end", 0, number(7)), ("told", 1, ended(7)),
            ("ask", 1, 0, send(8)), ("told", 1, ended()),
        ])

    def test_a_fault_leaves_x_and_y_as_they_were(self):
        hall = hall_of("rule main(g)\n x = 1\n y = 2\n try\n  x, y = ask g, 1\n catch w z\n  note z\n a = give x\nrule bad()\n fault w 3")
        hall.make("bad", ())
        hall.make("main", (giver(0),))
        self.assertEqual(hall.ask(1, SEND), given(1))
        self.assertEqual(hall.worths(1), (giver(0), NONE, number(1), number(2), number(3)))
        self.assertEqual(hall.record()[2:7], (
            ("ask", 1, 0, send(1)), ("begin", 0), ("out", 0, "w", number(3)), ("told", 1, fault("w", 3)),
            ("note", 1, number(3)),
        ))

    def test_x_then_y_where_they_are_the_same(self):
        hall = hall_of("rule main(g)\n while 1\n  x, x = ask g, 5\n  a = give x\nrule count(n)\n got = give n\n end got")
        hall.make("count", (number(4),))
        hall.make("main", (giver(0),))
        self.assertEqual([hall.ask(1, SEND), hall.ask(1, SEND)], [given(1), given(0)])

    def test_a_cast(self):
        text = "rule main(g)\n x, y = ask g, 1\n x, y = cast g, {} 5\n note x\n end y\nrule count()\n try\n  a = give 1\n catch {} b\n  a = give (b + 1)"
        for word in ("w", "close"):
            hall = hall_of(text.format(word, word))
            hall.make("count", ())
            hall.make("main", (giver(0),))
            self.assertEqual(hall.ask(1, SEND), ended(1))
            self.assertEqual(note_numbers(hall), [6])
            self.assertIn(("ask", 1, 0, fault(word, 5)), hall.record())

    def test_a_cast_of_close_that_is_not_taken_is_a_fault(self):
        hall = hall_of("rule main(g)\n x, y = cast g, close 5\n note 1\nrule count()\n a = give 1")
        hall.make("count", ())
        hall.make("main", (giver(0),))
        self.assertEqual(hall.ask(1, SEND), fault("close", 5))
        self.assertEqual(hall.record()[2:5], (
            ("ask", 1, 0, fault("close", 5)), ("out", 0, "close", number(5)), ("told", 1, fault("close", 5)),
        ))

    def closing(self, deeds):
        """The notes of one that closes a giver with these deeds behind its first give, and the rows of the close."""
        hall = hall_of(f"rule main(g)\n x, y = ask g, 1\n try\n  close g\n  note 1\n catch any z\n  note 2\n  note z\nrule count()\n{deeds}")
        hall.make("count", ())
        hall.make("main", (giver(0),))
        hall.ask(1, SEND)
        return note_numbers(hall), [row[2] for row in hall.record() if row[0] == "told"][1]

    def test_a_close(self):
        self.assertEqual(self.closing(" a = give 1"), ([1], CLOSED))
        self.assertEqual(self.closing(" try\n  a = give 1\n catch close b\n  end 4"), ([1], CLOSED))
        self.assertEqual(self.closing(" try\n  a = give 1\n catch close b\n  fault close 4"), ([1], CLOSED))
        self.assertEqual(self.closing(" try\n  a = give 1\n catch close b\n  fault w 4"), ([2, 4], fault("w", 4)))
        self.assertEqual(self.closing(" try\n  a = give 1\n catch close b\n  a = give 4"), ([2, NONE], fault("gives")))
        self.assertEqual(self.closing(" end 1"), ([1], CLOSED))

    def test_a_close_of_a_new_one(self):
        hall = hall_of("rule main(g)\n close g\n end 3\nrule count()\n a = give 1")
        hall.make("count", ())
        hall.make("main", (giver(0),))
        self.assertEqual(hall.ask(1, SEND), ended(3))
        self.assertEqual(hall.record()[2:5], (("ask", 1, 0, CLOSE), ("out", 0, "close", NONE), ("told", 1, CLOSED)))

    def test_kind_comes_behind_the_expressions(self):
        hall = one_of("rule main()\n try\n  x, y = ask 1, make main()\n catch kind z\n  note z\n try\n  x, y = cast none, w make main()\n catch kind z\n  note z\n try\n  close (1 < make main())\n catch kind z\n  note z\n x, y = ask 5, (none + 1)")
        self.assertEqual(hall.ask(0, SEND), fault("kind"))
        self.assertEqual((hall.many(), hall.hops(), note_numbers(hall)), (4, 1, [NONE, NONE, NONE]))

    def test_an_asked_chain(self):
        hall = hall_of("rule main(g)\n x, y = ask g, 5\n note x\n x, y = ask g, 6\n note x" + OVER + "\n" + COUNT)
        hall.make("count", (number(1),))
        hall.make("over", (giver(0),))
        hall.make("main", (giver(1),))
        self.assertEqual(hall.ask(2, SEND), ended())
        self.assertEqual(note_numbers(hall), [1, 50])
        self.assertEqual(hall.hops(), 1 + 1 + 1 + 2)

    def test_the_end_of_a_chain_asks(self):
        """The asked one hands on to one that asks a third, which gives; the answer goes back over both."""
        hall = hall_of("rule asks(g)\n x, y = ask g, 5\n a = give (x + 1)" + OVER + "\n" + COUNT)
        hall.make("count", (number(1),))
        hall.make("asks", (giver(0),))
        hall.make("over", (giver(1),))
        self.assertEqual(hall.ask(2, SEND), given(2))
        self.assertEqual([hall.state(k) for k in range(3)], [("gives", 1), ("gives", 1), ("hands on", 1, 1)])

    def deep(self, many, deed="x, y = ask g, 1"):
        """A row of givers each of which asks the one ahead of it, the last one of so many asked from outside."""
        hall = hall_of(f"rule main(g)\n if g\n  {deed}\n note 1")
        hall.make("main", (NONE,))
        for k in range(many - 1):
            hall.make("main", (giver(k),))
        return hall, hall.ask(many - 1, SEND)

    def test_twelve_asks_and_one_more(self):
        for many in (1, 2, 11, 12):
            hall, answer = self.deep(many)
            self.assertEqual((answer, len(note_numbers(hall))), (ended(), many))
        hall, answer = self.deep(13)
        self.assertEqual((answer, note_numbers(hall), hall.hops()), (fault("deep"), [], 12))
        self.assertEqual([hall.state(k) for k in range(13)], [("new",)] + [("ended",)] * 12)
        self.assertEqual(len([row for row in hall.record() if row[0] == "ask"]), 11)
        for deed in ("x, y = cast g, w 1", "close g"):
            hall, answer = self.deep(2, deed)
            self.assertEqual(hall.state(0), ("ended",))

    def test_deep_is_for_casts_and_closes_too_and_not_for_on(self):
        text = "rule main(g, d, h)\n if d\n  x, y = ask g, 1\n else\n  {}\nrule leaf()\n note 8"
        for deed, answer in (("x, y = cast h, w 1", fault("deep")), ("close h", fault("deep")), ("x, y = ask h, 1", fault("deep")),
                             ("x = on h", ended())):
            hall = hall_of(text.format(deed))
            hall.make("leaf", ())
            hall.make("main", (NONE, NONE, giver(0)))
            for k in range(1, 12):
                hall.make("main", (giver(k), number(1), NONE))
            self.assertEqual(hall.ask(12, SEND), answer, deed)
            self.assertEqual(hall.state(0), ("ended",) if answer == ended() else ("new",))

    def test_deep_is_told_ahead_of_ring_and_behind_kind(self):
        text = "rule main(g, d, h)\n if d\n  x, y = ask g, 1\n else\n  x, y = ask h, 1"
        for h, word, hops in ((giver(0), "deep", 12), (NONE, "kind", 12)):
            hall = hall_of(text)
            # The first of them would lean on itself.
            hall.make("main", (NONE, NONE, NONE))
            hall.make("main", (NONE, NONE, h))
            for k in range(1, 12):
                hall.make("main", (giver(k), number(1), NONE))
            self.assertEqual(hall.ask(12, SEND), fault(word))
            self.assertEqual(hall.hops(), hops)
            self.assertNotIn("ring", [row[0] for row in hall.record()])


# It is told a mode and a giver, and, asked once more, leans on this giver: by an on, an ask, a cast or a close.
PUPPET = """rule puppet()
 while 1
  m = give 0
  g = give 1
  s = give 2
  try
   if (m < 2)
    x = on g
   else
    if (m = 2)
     x, y = ask g, s
    else
     close g
  catch ring z
   note z
rule caster(g)
 s = give 1
 try
  x, y = cast g, w 3
 catch ring z
  note z
 s = give 2
rule over(g)
 x = on g
 end x"""
MODES = {"on": 1, "ask": 2, "close": 3}
WORDS = {"on": "on", "ask": "ask", "close": "ask"}


def puppets(plans, overs=()):
    """A hall of puppets, one for each plan, which tells how and on whom it leans; and of overs, each over a giver.

    The chain of the last over has all others.
    """
    hall = hall_of(PUPPET)
    for k in range(len(plans)):
        hall.make("puppet", ())
    for g in overs:
        hall.make("over", (giver(g),))
    if overs:
        hall.ask(hall.many() - 1, SEND)
    for k, (mode, g) in enumerate(plans):
        if hall.state(k) == ("new",):
            hall.ask(k, SEND)
        hall.ask(k, send(MODES[mode]))
        hall.ask(k, ("send", giver(g)))
    return hall


class RingTest(unittest.TestCase):
    def ring(self, plans, overs=(), asked=0):
        """The one ring that comes where the asked one is asked."""
        hall = puppets(plans, overs)
        others = [(hall.state(k), hall.worths(k)) for k in range(len(plans), hall.many())]
        rows = len(hall.record())
        hall.ask(asked, SEND)
        self.assertEqual([(hall.state(k), hall.worths(k)) for k in range(len(plans), hall.many())], others)
        rings = [row for row in hall.record()[rows:] if row[0] == "ring"]
        self.assertEqual(len(rings), 1)
        self.assertEqual(rings[0][1], rings[0][2][0][0])
        return rings[0][2]

    def test_a_ring_of_one(self):
        for mode in MODES:
            self.assertEqual(self.ring([(mode, 0)]), ((0, WORDS[mode]),))

    def test_the_rows_and_hops_of_a_ring(self):
        for mode in MODES:
            hall = puppets([(mode, 0)])
            rows, hops = len(hall.record()), hall.hops()
            self.assertEqual(hall.ask(0, SEND), given(0))
            self.assertEqual(hall.record()[rows:], (
                ("asked", 0, SEND), ("ring", 0, ((0, WORDS[mode]),)), ("note", 0, NONE), ("give", 0, number(0)),
                ("answered", given(0)),
            ))
            self.assertEqual((hall.hops() - hops, hall.chain(0)), (2, [0]))

    def test_by_a_cast(self):
        hall = hall_of(PUPPET)
        hall.make("puppet", ())
        hall.make("caster", (giver(0),))
        for how in (SEND, send(2), ("send", giver(1))):
            hall.ask(0, how)
        hall.ask(1, SEND)
        self.assertEqual(hall.ask(0, SEND), given(0))
        self.assertIn(("ring", 1, ((1, "ask"), (0, "ask"))), hall.record())

    def test_a_ring_that_is_not_taken(self):
        hall = one_of("rule main()\n h = give 1\n x = on h")
        hall.ask(0, SEND)
        self.assertEqual(hall.ask(0, ("send", giver(0))), fault("ring"))
        self.assertEqual(hall.record()[-3:], (
            ("ring", 0, ((0, "on"),)), ("out", 0, "ring", NONE), ("answered", fault("ring")),
        ))

    def test_rings_of_two(self):
        for first in ("on", "ask"):
            for second in MODES:
                self.assertEqual(self.ring([(first, 1), (second, 0)]), ((1, WORDS[second]), (0, first)))

    def test_rings_of_many(self):
        for modes in (("on", "ask", "on"), ("ask", "on", "close"), ("on", "on", "ask", "ask", "on")):
            many = len(modes)
            plans = [(mode, (k + 1) % many) for k, mode in enumerate(modes)]
            leans = [(k, WORDS[mode]) for k, mode in enumerate(modes)]
            self.assertEqual(self.ring(plans), tuple(leans[-1:] + leans[:-1]))

    def test_those_ahead_of_the_first_in_the_midst_are_not_of_the_ring(self):
        self.assertEqual(self.ring([("ask", 1), ("on", 2), ("ask", 1)]), ((2, "ask"), (1, "on")))
        self.assertEqual(self.ring([("on", 1), ("ask", 2), ("on", 2)]), ((2, "on"),))
        self.assertEqual(self.ring([("on", 1), ("on", 2), ("ask", 3), ("on", 4), ("close", 2)]),
                         ((4, "ask"), (2, "ask"), (3, "on")))

    def test_over_givers_that_are_not_in_the_midst(self):
        self.assertEqual(self.ring([("on", 3)], (0, 1, 2)), ((0, "on"), (3, "on"), (2, "on"), (1, "on")))
        self.assertEqual(self.ring([("ask", 2)], (0, 1, 2)), ((0, "ask"), (2, "on"), (1, "on")))
        # The chain of 5 is 5, 4, 1: it comes to the midst at 1, whose own leaning goes on from there.
        self.assertEqual(self.ring([("ask", 1), ("on", 2), ("on", 3), ("close", 5)], (1, 4)),
                         ((3, "ask"), (5, "on"), (4, "on"), (1, "on"), (2, "on")))

    def test_where_the_asked_one_is_an_over(self):
        """The asked one leans on the puppet already: the puppet leans on it."""
        self.assertEqual(self.ring([("on", 1)], (0,), asked=1), ((0, "on"), (1, "on")))
        self.assertEqual(self.ring([("ask", 2)], (0, 1), asked=2), ((0, "ask"), (2, "on"), (1, "on")))
        self.assertEqual(self.ring([("ask", 1)], (0, 1), asked=2), ((0, "ask"), (1, "on")))

    def test_a_ring_of_a_hundred(self):
        ring = self.ring([("ask", 99)], tuple(range(99)))
        self.assertEqual(ring, ((0, "ask"),) + tuple((k, "on") for k in range(99, 0, -1)))

    def test_one_that_has_ended_is_in_the_midst_no_more(self):
        text = """rule main(g)
 x = on g
 y, z = ask g, 1
 note y
 y = on g
 note y
 y = give z
rule quick()
 end 5"""
        hall = hall_of(text)
        hall.make("quick", ())
        hall.make("main", (giver(0),))
        self.assertEqual(hall.ask(1, SEND), given(0))
        self.assertEqual(note_numbers(hall), [NONE, NONE])


class FindTest(unittest.TestCase):
    """Hops of the walker's hall: as many as the chain has givers, at each find."""

    def test_asks_from_outside(self):
        hall = chain_hall(4, worths=(number(9),))
        hall.ask(4, SEND)
        # Itself new, then each on of a new one.
        self.assertEqual(hall.hops(), 5)
        for k, hops in ((4, 10), (0, 11), (2, 14), (2, 17)):
            hall.ask(k, SEND)
            self.assertEqual(hall.hops(), hops)

    def test_refused_asks_are_none(self):
        hall = chain_hall(4)
        for k, how in ((9, SEND), (0, None)):
            self.assertRaises(ValueError, hall.ask, k, how)
        self.assertEqual((hall.hops(), hall.record()), (0, ()))

    def test_deeds(self):
        for deed in ("x = on g", "x, y = ask g, 1", "x, y = cast g, w 1", "close g"):
            hall = hall_of(BOTH + f"\nrule main(g)\n {deed}")
            hall.make("count", (number(2),))
            for k in range(3):
                hall.make("over", (giver(k),))
            hall.ask(3, SEND)
            hops = hall.hops()
            k = hall.make("main", (giver(3),))
            hall.ask(k, SEND)
            self.assertEqual(hall.hops() - hops, 1 + 4, deed)

    def test_where_there_is_a_ring_too(self):
        hall = puppets([("on", 3)], (0, 1, 2))
        hops = hall.hops()
        hall.ask(0, SEND)
        self.assertEqual(hall.hops() - hops, 1 + 4)

    def test_chain_is_no_find(self):
        hall = chain_hall(4)
        hall.ask(4, SEND)
        hops = hall.hops()
        hall.chain(4)
        self.assertEqual(hall.hops(), hops)

    def test_what_is_stopped_leaves_hops_as_they_were(self):
        hall = chain_hall(4, most=4)
        self.assertEqual(hall.ask(4, SEND), STOPPED)
        self.assertEqual(hall.hops(), 0)


class KeepTest(unittest.TestCase):
    def test_new_standing_and_ended_ones(self):
        hall = hall_of(BOTH)
        hall.make("count", (number(1),))
        hall.make("over", (giver(0),))
        hall.make("wary", (giver(1),))
        self.assertEqual(hall.keep(), (
            ("count", ("new",), (number(1), NONE)), ("over", ("new",), (giver(0), NONE)),
            ("wary", ("new",), (giver(1), NONE, NONE)),
        ))
        hall.ask(2, SEND)
        self.assertEqual(hall.keep(), (
            ("count", ("stands", 1, (), None), (number(1), NONE)), ("over", ("stands", 1, (), 0), (giver(0), NONE)),
            ("wary", ("stands", 1, (), 1), (giver(1), NONE, NONE)),
        ))
        hall.ask(1, SEND)
        self.assertEqual(hall.keep()[:2], (("count", ("ended",), ()), ("over", ("ended",), ())))
        self.assertEqual(hall.keep()[2][1], ("stands", 1, (), 1))

    def kept(self, deeds, *hows):
        """What is kept of a giver with these deeds as its state, behind these asks."""
        hall = one_of(f"rule main()\n{deeds}")
        for how in (SEND,) + hows:
            hall.ask(0, how)
        return hall.keep()[0][1]

    def test_pendings(self):
        text = " while 1\n  try\n   {}\n  last\n   x = give 1"
        for deed, pending in (("note 1", GO), ("end 4", ("end", number(4))), ("fault w 5", fault("w", 5)), ("leave", ("leave",)),
                              ("end none", ("end", NONE)), ("note (1 + none)", fault("kind"))):
            self.assertEqual(self.kept(text.format(deed)), ("stands", 1, (pending,), None))

    def test_pendings_outermost_first(self):
        text = " try\n  fault w 1\n last\n  try\n   end 2\n  last\n   x = give 3"
        self.assertEqual(self.kept(text), ("stands", 1, (fault("w", 1), ("end", number(2))), None))

    def test_pendings_are_none_in_a_block_or_a_catch(self):
        text = " try\n  x = give 1\n catch w y\n  x = give 2\n last\n  x = give 3"
        self.assertEqual(self.kept(text), ("stands", 1, (), None))
        self.assertEqual(self.kept(text, fault("w")), ("stands", 2, (), None))
        self.assertEqual(self.kept(text, fault("v", 6)), ("stands", 3, (fault("v", 6),), None))
        self.assertEqual(self.kept(text, SEND), ("stands", 3, (GO,), None))

    def test_what_was_to_come_is_dropped_where_lasts_are_gone_out_of(self):
        text = " try\n  try\n   fault w 1\n  last\n   fault v 2\n catch v x\n  x = give 1\n last\n  x = give 3"
        self.assertEqual(self.kept(text), ("stands", 1, (), None))
        self.assertEqual(self.kept(text, fault("u", 6)), ("stands", 2, (fault("u", 6),), None))
        text = " while 1\n  try\n   end 1\n  last\n   leave\n x = give 2"
        self.assertEqual(self.kept(text), ("stands", 1, (), None))
        text = " try\n  end 9\n last\n  while 1\n   try\n    end 1\n   last\n    leave\n  x = give 2"
        self.assertEqual(self.kept(text), ("stands", 1, (("end", number(9)),), None))

    def test_just_what_was_to_come_behind_those_lasts_is_dropped(self):
        inner = " try\n  try\n   end 1\n  last\n   fault v 2\n catch v x\n  x = give 1"
        deeper = "\n".join("  " + line for line in inner.split("\n"))
        self.assertEqual(self.kept(f" try\n  try\n{deeper}\n  last\n   note 1\n last\n  note 2"), ("stands", 1, (), None))
        deep = "\n".join(" " + line for line in inner.split("\n"))
        self.assertEqual(self.kept(f" try\n  fault w 3\n last\n  try\n   note 1\n  last\n{deeper}"),
                         ("stands", 1, (fault("w", 3), GO), None))
        self.assertEqual(self.kept(f" try\n  fault w 3\n last\n{deep}"), ("stands", 1, (fault("w", 3),), None))

    def test_pendings_of_lasts_that_are_through_are_gone(self):
        tries = " try\n  note 1\n last\n  x = give 1\n"
        text = " while 1\n" + "".join(f" {line}\n" for line in (tries + tries + " x = give 2").split("\n"))
        for many in range(7):
            n = many % 3 + 1
            self.assertEqual(self.kept(text.rstrip("\n"), *(SEND,) * many), ("stands", n, (GO,) if n < 3 else (), None))

    def test_what_is_stopped_leaves_pendings_as_they_were(self):
        text = "rule main()\n try\n  end 4\n last\n  x = give 1\n  while x\n   note 1"
        hall = one_of(text, 20)
        hall.ask(0, SEND)
        before = whole(hall)
        self.assertEqual(hall.ask(0, send(1)), STOPPED)
        self.assertEqual(hall.ask(0, fault("w")), fault("w"))
        hall = one_of(text, 20)
        hall.ask(0, SEND)
        self.assertEqual(hall.ask(0, send(1)), STOPPED)
        self.assertEqual(whole(hall), before)
        self.assertEqual(hall.ask(0, send(0)), ended(4))

    def test_an_on_in_lasts(self):
        hall = one_of("rule main()\n try\n  end 4\n last\n  x = on make leaf()\nrule leaf()\n x = give 1")
        hall.ask(0, SEND)
        self.assertEqual(hall.keep(), (
            ("main", ("stands", 1, (("end", number(4)),), 1), (NONE,)), ("leaf", ("stands", 1, (), None), (NONE,)),
        ))
        self.assertEqual(hall.ask(0, SEND), ended(4))

    def test_states_and_stand_numbers(self):
        hall = one_of("rule main()\n x = give 1\n if x\n  x = give 2\n else\n  x = on make main()\n x = give 3")
        hall.ask(0, SEND)
        self.assertEqual((hall.state(0), hall.keep()[0][1]), (("gives", 1), ("stands", 1, (), None)))
        hall.ask(0, SEND)
        self.assertEqual((hall.state(0), hall.keep()[0][1]), (("hands on", 3, 1), ("stands", 3, (), 1)))
        hall.ask(0, send(5))
        hall.ask(0, send(6))
        self.assertEqual(hall.state(1), ("gives", 4))
        hall.ask(0, send(7))
        self.assertEqual((hall.state(0), hall.state(1)), (("gives", 4), ("ended",)))


if __name__ == "__main__":
    unittest.main()
