"""Promise 30: handers stand between a giver and who asks it, in whatever number: answers and notes stay."""

import unittest

from handedon.treehall import TreeHall
from tests.halling import CLOSE, NONE, SEND, STOPPED, giver, hall_of, number, send
from tests.lively import GIVERS, Lively

HANDER = ("hander", ("p",), (("on", "x", ("var", "p")), ("end", ("var", "x"))))


def has_giver(thing):
    """Whether there is a giver's worth somewhere in nested tuples."""
    return isinstance(thing, tuple) and (thing[:1] == ("giver",) or any(has_giver(part) for part in thing))


def moved(thing, many):
    """The same nested tuples, numbers of givers but 0 greater by so many."""
    if not isinstance(thing, tuple):
        return thing
    if thing[:1] == ("giver",):
        return giver(thing[1] + many * (thing[1] > 0))
    if thing[:1] == ("hands on",):
        return thing[:2] + (thing[2] + many * (thing[2] > 0),)
    return tuple(moved(part, many) for part in thing)


class Asked:
    """A hall with a giver and so many handers over it, asked in these ways."""

    def __init__(self, book, worths, many, hows):
        hall = TreeHall(book, 300)
        hall.make(book[0][0], worths)
        for k in range(many):
            hall.make("hander", (giver(k),))
        self.answers = [hall.ask(many, how) for how in hows]
        self.notes = [row[2] for row in hall.record() if row[:2] == ("note", 0)]
        self.told = (hall.state(0), hall.worths(0))
        record = hall.record()
        faults = [row[2] for row in record if row[0] in ("hit", "out")]
        faults += [row[2][1] for row in record if row[0] == "told" and row[2][0] == "fault"]
        # That none of these came can't be seen where they were caught at once: so the record's words, and the count.
        self.fits = STOPPED not in self.answers and not has_giver((tuple(self.answers), tuple(self.notes)))
        self.fits = self.fits and hall.many() + many < 100 and "ring" not in [row[0] for row in record]
        self.fits = self.fits and "deep" not in faults and "full" not in faults


class HanderTest(unittest.TestCase):
    def test_lively_books(self):
        seen = sends = 0
        for seed in range(500):
            lively = Lively(seed)
            book = lively.book() + (HANDER,)
            worths = tuple(NONE if name in GIVERS else number(lively.chance.randint(0, 4)) for name in book[0][1])
            hows = []
            for _ in range(8):
                worth = lively.pick([NONE, number(lively.chance.randint(-1, 5))])
                hows.append(lively.pick([("send", worth)] * 6 + [("fault", lively.pick(["w", "close", "ring"]), worth), CLOSE]))
            alone = Asked(book, worths, 0, hows)
            for many in (1, 2, 7):
                over = Asked(book, worths, many, hows)
                if alone.fits and over.fits:
                    self.assertEqual(over.answers, alone.answers, (book, hows))
                    self.assertEqual(over.notes, alone.notes)
                    seen += 1
                    if hows[0][0] == "send":
                        self.assertEqual(over.told, moved(alone.told, many))
                        sends += 1
        self.assertGreater(seen, 600)
        self.assertGreater(sends, 400)

    def test_chains_of_one_to_ninety_nine(self):
        book = """rule main(n)
 try
  while (0 < n)
   got = give n
   note got
   n = (n - 1)
 catch w x
  note x
  got = give 77
 last
  note 88
 end 99
rule hander(p)
 x = on p
 end x"""
        book = hall_of(book).book
        for hows in ((SEND,) + (send(4),) * 5, (send(1), ("fault", "w", number(3)), send(2), SEND), (send(1), CLOSE, SEND),
                     (send(1), ("fault", "w", NONE), CLOSE, SEND), (CLOSE, SEND, SEND), (("fault", "v", NONE), SEND, CLOSE),
                     (SEND, ("fault", "v", number(5)), ("fault", "u", NONE), CLOSE)):
            alone = Asked(book, (number(2),), 0, hows)
            for many in (1, 2, 3, 50, 98, 99):
                over = Asked(book, (number(2),), many, hows)
                self.assertEqual(over.answers, alone.answers)
                self.assertEqual(over.notes, alone.notes)
                if hows[0][0] == "send":
                    self.assertEqual(over.told, alone.told)


if __name__ == "__main__":
    unittest.main()
