"""The desk: a hall that is told rows of words, and answers by texts."""

from handedon.codes import codes_of
from handedon.errors import NoRow, NoText
from handedon.kept import code_from, tree_from
from handedon.reader import read_book
from handedon.shorter import shortened
from handedon.treehall import TreeHall
from handedon.worths import is_word, read_worth, worth_text

MOST_STEPS = 300
NOTHING = "nothing"
# For each row's first word the kinds of its other words, in order; make has any number of worths behind its name.
ROW_KINDS = {
    "send": ("giver", "worth"),
    "fault": ("giver", "word", "worth"),
    "close": ("giver",),
    "state": ("giver",),
    "chain": ("giver",),
    "worths": ("giver",),
    "notes": (),
    "many": (),
    "steps": (),
    "hops": (),
    "walk": (),
    "machine": (),
    "short": (),
}


def kinds_of(words):
    """The kinds of the words behind the first one, or NoRow."""
    if words[0] == "make" and len(words) > 1:
        return ("name",) + ("worth",) * (len(words) - 2)
    kinds = ROW_KINDS.get(words[0])
    if kinds is None or len(kinds) != len(words) - 1:
        raise NoRow("none of the desk's rows")
    return kinds


def read_giver(word):
    """The number of the giver that is so written, or NoText."""
    worth = read_worth(word)
    if worth[0] != "giver":
        raise NoText(0)
    return worth[1]


def read_word(word):
    """The word, or NoText."""
    if not is_word(word):
        raise NoText(0)
    return word


def read_part(kind, word):
    """What the word tells, which is to be of this kind, or NoText."""
    if kind == "giver":
        return read_giver(word)
    if kind == "worth":
        return read_worth(word)
    return read_word(word) if kind == "word" else word


def giver_text(k):
    """How the giver of this number is written."""
    return worth_text(("giver", k))


def joined(texts):
    """The texts with blanks between, or that there are none."""
    return " ".join(texts) if len(texts) > 0 else NOTHING


def answer_text(answer):
    """How the answer is written."""
    if answer[0] == "fault":
        return f"fault {answer[1]} {worth_text(answer[2])}"
    if len(answer) == 2:
        return f"{answer[0]} {worth_text(answer[1])}"
    return answer[0]


def state_text(state):
    """How the state is written."""
    if state[0] == "gives":
        return f"gives {state[1]}"
    if state[0] == "hands on":
        return f"hands on {state[1]} {giver_text(state[2])}"
    return state[0]


def say_make(desk, parts):
    """Makes a giver."""
    return giver_text(desk.hall.make(parts[0], tuple(parts[1:])))


def say_send(desk, parts):
    """Asks a giver by a worth."""
    return answer_text(desk.hall.ask(parts[0], ("send", parts[1])))


def say_fault(desk, parts):
    """Asks a giver by a fault."""
    return answer_text(desk.hall.ask(parts[0], ("fault", parts[1], parts[2])))


def say_close(desk, parts):
    """Closes a giver."""
    return answer_text(desk.hall.ask(parts[0], ("close",)))


def say_state(desk, parts):
    """Tells a giver's state."""
    return state_text(desk.hall.state(parts[0]))


def say_chain(desk, parts):
    """Tells a giver's chain."""
    return joined([giver_text(k) for k in desk.hall.chain(parts[0])])


def say_worths(desk, parts):
    """Tells the worths of a giver's variables."""
    return joined([worth_text(worth) for worth in desk.hall.worths(parts[0])])


def say_notes(desk, parts):
    """Tells the notes of the record."""
    notes = [row for row in desk.hall.record() if row[0] == "note"]
    return joined([f"{giver_text(k)}:{worth_text(worth)}" for word, k, worth in notes])


def say_many(desk, parts):
    """Tells how many givers there are."""
    return str(desk.hall.many())


def say_steps(desk, parts):
    """Tells how many steps were counted."""
    return str(desk.hall.steps())


def say_hops(desk, parts):
    """Tells how many hops all finds took."""
    return str(desk.hall.hops())


def say_walk(desk, parts):
    """Goes on with a walker's hall."""
    desk.hall = tree_from(desk.book, desk.hall.keep(), MOST_STEPS)
    return "ok"


def say_machine(desk, parts):
    """Goes on with a machine's hall."""
    desk.hall = code_from(desk.book, codes_of(desk.book), desk.hall.keep(), MOST_STEPS)
    return "ok"


def say_short(desk, parts):
    """Goes on with a machine's hall whose codes are shortened."""
    codes = tuple([shortened(code) for code in codes_of(desk.book)])
    desk.hall = code_from(desk.book, codes, desk.hall.keep(), MOST_STEPS)
    return "ok"


SAYS = {
    "make": say_make,
    "send": say_send,
    "fault": say_fault,
    "close": say_close,
    "state": say_state,
    "chain": say_chain,
    "worths": say_worths,
    "notes": say_notes,
    "many": say_many,
    "steps": say_steps,
    "hops": say_hops,
    "walk": say_walk,
    "machine": say_machine,
    "short": say_short,
}


class Desk:
    """A desk over the book of a text; its hall is the walker's at first."""

    def __init__(self, text):
        self.book = read_book(text)
        self.hall = TreeHall(self.book, MOST_STEPS)

    def say(self, row):
        """What the desk answers to the row."""
        if not isinstance(row, str):
            raise NoRow("no text")
        words = row.split(" ")
        parts = [read_part(kind, word) for kind, word in zip(kinds_of(words), words[1:])]
        say_row = SAYS[words[0]]
        return say_row(self, parts)
