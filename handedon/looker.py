"""The looker at records: whether the rows of one may come so, and how the givers are at its end."""

from handedon.asks import MOST_ASKS, Ask, answer_to, ring_of, runner, way_of
from handedon.books import rule_of
from handedon.goes import tries_around
from handedon.places import stands_of, tries_of
from handedon.records import is_row
from handedon.worths import NONE


class Follower:
    """What is followed along a record.

    Of givers: the phases of those that aren't new, the tries that are open, in the order of opening, and the leans: to
    whom one hands on. The asks that are in the midst; the end of the innermost one's line runs, but where `must` is the
    one row that may come next.
    """

    def __init__(self):
        self.phases = {}
        self.tries = {}
        self.leans = {}
        self.midst = []
        self.must = None


def follow_from(book, kept):
    """A follower at the kept tuple."""
    follower = Follower()
    for k, (name, state, worths) in enumerate(kept):
        follower.phases[k] = "begun" if state[0] == "stands" else state[0]
        if state[0] == "stands":
            rule = rule_of(book, name)
            numbers = tries_of(rule)
            place = stands_of(rule)[state[1] - 1]
            follower.tries[k] = [numbers.index(outer) for outer in tries_around(rule, place)]
            if state[3] is not None:
                follower.leans[k] = state[3]
    return follower


def chain_led(follower, k):
    """The chain of giver k."""
    chain = [k]
    while chain[-1] in follower.leans:
        chain.append(follower.leans[chain[-1]])
    return chain


def meet(follower, how):
    """The end of the innermost asked chain is met by how."""
    k = runner(follower.midst)
    phase = follower.phases.get(k, "new")
    way = way_of(how)
    if phase == "new":
        follower.must = ("begin", k) if way[0] == "send" else ("out", k, way[1], way[2])
    elif phase == "ended":
        come_out(follower, ("ended", NONE) if way[0] == "send" else way)


def come_out(follower, told):
    """What comes out of the end of the innermost asked chain goes to the one ahead, or is the answer."""
    line = follower.midst[-1].line
    line.pop()
    if len(line) == 0:
        tell(follower, told)
    elif told[0] == "fault":
        follower.must = ("hit", line[-1], told[1], told[2])
    else:
        follower.must = ("back", line[-1], told[1])


def tell(follower, told):
    """What comes of the asked giver is the answer to the innermost ask."""
    ask = follower.midst.pop()
    answer = answer_to(ask.how, told)
    if len(follower.midst) == 0:
        follower.must = ("answered", answer)
    else:
        follower.must = ("told", runner(follower.midst), answer)


def is_free(follower, word, g):
    """Whether the one that runs may lean on g, by this word."""
    return ring_of(follower.midst, word, chain_led(follower, g)) is None


def follow_asked(follower, row):
    """An ask from outside."""
    follower.midst.append(Ask(row[2], chain_led(follower, row[1])))
    meet(follower, row[2])
    return True


def follow_begin(follower, row):
    """A new giver begins: never but where it must."""
    follower.phases[row[1]] = "begun"
    return True


def follow_back(follower, row):
    """A giver goes on behind its handing on: never but where it must."""
    follower.leans.pop(row[1])
    return True


def follow_told(follower, row):
    """An answer, which never comes but where it must, and changes nothing more."""
    return True


def follow_note(follower, row):
    """A note, which changes nothing."""
    return True


def follow_try(follower, row):
    """A try begins, which isn't open."""
    tries = follower.tries.setdefault(row[1], [])
    if row[2] in tries:
        return False
    tries.append(row[2])
    return True


def follow_last(follower, row):
    """The lasts of the try that was opened last begin."""
    tries = follower.tries.get(row[1], [])
    if len(tries) == 0 or tries[-1] != row[2]:
        return False
    tries.pop()
    return True


def follow_give(follower, row):
    """What is given is the answer."""
    tell(follower, ("given", row[2]))
    return True


def follow_on(follower, row):
    """A giver hands on, to one whose chain has none in the midst."""
    k, g = row[1:]
    if not is_free(follower, "on", g):
        return False
    follower.leans[k] = g
    follower.midst[-1].line.extend(chain_led(follower, g))
    meet(follower, ("send", NONE))
    return True


def follow_ask(follower, row):
    """A giver asks one whose chain has none in the midst."""
    g, how = row[2:]
    if len(follower.midst) >= MOST_ASKS or not is_free(follower, "ask", g):
        return False
    follower.midst.append(Ask(how, chain_led(follower, g)))
    meet(follower, how)
    return True


def follow_ring(follower, row):
    """A ring, which is just that of the giver that its first leans on."""
    ring = row[2]
    g = ring[1][0] if len(ring) > 1 else ring[0][0]
    return ring == ring_of(follower.midst, ring[0][1], chain_led(follower, g))


def follow_end(follower, row):
    """A giver ends, by a worth or a fault, where none of its tries is open."""
    if len(follower.tries.get(row[1], [])) > 0:
        return False
    follower.phases[row[1]] = "ended"
    come_out(follower, ("ended", row[2]) if row[0] == "end" else ("fault", row[2], row[3]))
    return True


# Rows that come only where they must; others come only from the one that runs, but asked, which comes where none runs.
FORCED = ("begin", "back", "hit", "told", "answered")
FOLLOWS = {
    "asked": follow_asked,
    "begin": follow_begin,
    "note": follow_note,
    "try": follow_try,
    "last": follow_last,
    "give": follow_give,
    "on": follow_on,
    "back": follow_back,
    "hit": follow_back,
    "ask": follow_ask,
    "told": follow_told,
    "ring": follow_ring,
    "end": follow_end,
    "out": follow_end,
    "answered": follow_told,
}


def is_due(follower, row):
    """Whether a row of this word and giver may come next."""
    if follower.must is not None:
        return row == follower.must
    if row[0] == "asked":
        return len(follower.midst) == 0
    return row[0] not in FORCED and len(follower.midst) > 0 and row[1] == runner(follower.midst)


def follow(follower, row):
    """Whether the row may come next; where it may, it is followed."""
    if not is_due(follower, row):
        return False
    follower.must = None
    follow_row = FOLLOWS[row[0]]
    return follow_row(follower, row)


def followed(book, kept, record):
    """The follower behind all rows of a record that is let by from the kept tuple on."""
    follower = follow_from(book, kept)
    for row in record:
        follow(follower, row)
    return follower


def lets_record(book, kept, thing):
    """Whether the thing is a record that is let by from the kept tuple on."""
    if not isinstance(thing, tuple):
        return False
    follower = follow_from(book, kept)
    for row in thing:
        if not is_row(row) or not follow(follower, row):
            return False
    return follower.must is None and len(follower.midst) == 0


def open_in(book, kept, record, k):
    """The numbers of k's tries that are open at the record's end, in the order of opening."""
    return list(followed(book, kept, record).tries.get(k, []))


def leans_in(book, kept, record):
    """The pairs of who hands on to whom at the record's end, rising."""
    return sorted(followed(book, kept, record).leans.items())
