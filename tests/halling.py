"""What several tests of halls have in common."""

from handedon.reader import read_book
from handedon.treehall import TreeHall

NONE = ("none",)
CLOSE = ("close",)
SEND = ("send", NONE)
GO = ("go",)
STOPPED = ("stopped",)
CLOSED = ("closed",)


def number(n):
    return ("number", n)


def giver(k):
    return ("giver", k)


def send(n):
    return ("send", number(n))


def fault(word, n=None):
    return ("fault", word, NONE if n is None else number(n))


def given(n):
    return ("given", number(n))


def ended(n=None):
    return ("ended", NONE if n is None else number(n))


def hall_of(text, most=300):
    """A walker's hall of the book that is so written."""
    return TreeHall(read_book(text), most)


def one_of(text, most=300):
    """A hall with one giver, of the first rule, which has no params."""
    hall = hall_of(text, most)
    hall.make(read_book(text)[0][0], ())
    return hall


def whole(hall):
    """All that a hall tells."""
    each = [(hall.state(k), hall.worths(k), hall.chain(k)) for k in range(hall.many())]
    return (hall.many(), hall.steps(), hall.hops(), hall.record(), hall.keep(), each)


def notes(hall):
    """The worths of the record's notes, in order."""
    return [row[2] for row in hall.record() if row[0] == "note"]


def note_numbers(hall):
    """As notes, of those that are numbers the number alone."""
    return [worth[1] if worth[0] == "number" else worth for worth in notes(hall)]
