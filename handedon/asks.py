"""Asks: how they are told and answered, who is in the midst of them, and how they go from giver to giver.

While an ask from outside runs, what came last is told as one of these, and each is followed by another, until it is
("answered", answer) or ("stopped",):
- ("runs", way): the giver at the end of the innermost asked chain runs, by ("begin",), ("send", worth),
  ("fault", word, worth), or by the answer to what it asked;
- ("gives", worth), ("hands on", worth), ("asks", worth, how), ("ends", worth), ("falls", word, worth): this giver
  came to a give, an on, a deed that asks, its end, or a fault went out of it;
- ("comes", told): it has ended, and ("ended", worth) or ("fault", word, worth) comes out of it;
- ("tells", told): this is the answer to the innermost ask, but for what a close makes of it.
"""

from handedon.givers import end_giver
from handedon.worths import NONE, is_word, is_worth

MOST_ASKS = 12
CLOSE = ("close",)
CLOSED = ("closed",)


class Ask:
    """An ask in the midst: how it was asked, and the line of givers from the asked one to the end of its chain."""

    def __init__(self, how, line):
        self.how = how
        self.line = line


def is_how(thing, many):
    """Whether the thing is a way to ask, a giver's number in it below many."""
    if not isinstance(thing, tuple) or len(thing) == 0:
        return False
    if thing[0] == "send":
        return len(thing) == 2 and is_worth(thing[1], many)
    if thing[0] == "fault":
        return len(thing) == 3 and is_word(thing[1]) and is_worth(thing[2], many)
    return thing == CLOSE


def way_of(how):
    """How the asked giver is met: a close is a fault like others there."""
    return ("fault", "close", NONE) if how == CLOSE else how


def answer_to(how, told):
    """The answer to an ask where this comes of the asked giver."""
    if how != CLOSE:
        return told
    if told[0] == "given":
        return ("fault", "gives", NONE)
    if told[0] == "ended" or told[1] == "close":
        return CLOSED
    return told


def runner(asks):
    """The number of the giver that runs: the end of the innermost asked chain."""
    return asks[-1].line[-1]


def leans_of(asks, word):
    """All givers in the midst, in order, each with how it leans on the next, the one that runs with this word."""
    leans = []
    for ask in asks:
        leans.extend([(k, "on") for k in ask.line[:-1]])
        leans.append((ask.line[-1], "ask"))
    leans[-1] = (leans[-1][0], word)
    return leans


def ring_of(asks, word, chain):
    """The ring that would be where the one that runs leaned, by this word, on the chain's first; None without one."""
    leans = leans_of(asks, word)
    midst = [k for k, leaning in leans]
    free = []
    for k in chain:
        if k in midst:
            return (leans[-1],) + tuple(free) + tuple(leans[midst.index(k):-1])
        free.append((k, "on"))
    return None


def meet_end(hall, how):
    """The end of the innermost asked chain is met by how."""
    giver = hall.givers[runner(hall.midst)]
    way = way_of(how)
    if giver.phase == "begun":
        return ("runs", way)
    if giver.phase == "new" and way[0] == "send":
        giver.phase = "begun"
        hall.rows.append(("begin", giver.number))
        return ("runs", ("begin",))
    if giver.phase == "new":
        return ("falls", way[1], way[2])
    return ("comes", ("ended", NONE) if way[0] == "send" else way)


def after_runs(hall, came):
    """The giver runs, till something else comes."""
    return hall.giver_run(hall.givers[runner(hall.midst)], came[1])


def after_gives(hall, came):
    """What it gives is the answer through all of its chain."""
    hall.rows.append(("give", runner(hall.midst), came[1]))
    return ("tells", ("given", came[1]))


def look_for_ring(hall, word, g):
    """The chain of g, and None; or, where one of it is in the midst, the fault that comes of it."""
    chain = hall.chain_found(g)
    ring = ring_of(hall.midst, word, chain)
    if ring is None:
        return chain, None
    hall.rows.append(("ring", runner(hall.midst), ring))
    return chain, ("runs", ("fault", "ring", NONE))


def after_hands_on(hall, came):
    """It hands on, and the new end of its chain is asked at once."""
    if came[1][0] != "giver":
        return ("runs", ("fault", "kind", NONE))
    g = came[1][1]
    chain, fault = look_for_ring(hall, "on", g)
    if fault is not None:
        return fault
    giver = hall.givers[runner(hall.midst)]
    hall.rows.append(("on", giver.number, g))
    giver.inner = g
    giver.handed += 1
    hall.midst[-1].line.extend(chain)
    return meet_end(hall, ("send", NONE))


def after_asks(hall, came):
    """It asks another giver: an ask within the ask."""
    if came[1][0] != "giver":
        return ("runs", ("fault", "kind", NONE))
    if len(hall.midst) == MOST_ASKS:
        return ("runs", ("fault", "deep", NONE))
    g = came[1][1]
    how = came[2]
    chain, fault = look_for_ring(hall, "ask", g)
    if fault is not None:
        return fault
    hall.rows.append(("ask", runner(hall.midst), g, how))
    hall.midst.append(Ask(how, chain))
    return meet_end(hall, how)


def after_ends(hall, came):
    """It ends with a worth."""
    k = runner(hall.midst)
    hall.rows.append(("end", k, came[1]))
    end_giver(hall.givers[k])
    return ("comes", ("ended", came[1]))


def after_falls(hall, came):
    """It ends by a fault."""
    k = runner(hall.midst)
    hall.rows.append(("out", k, came[1], came[2]))
    end_giver(hall.givers[k])
    return ("comes", ("fault", came[1], came[2]))


def after_comes(hall, came):
    """The one ahead of the ended one goes on; where there is none, that is the answer."""
    told = came[1]
    line = hall.midst[-1].line
    line.pop()
    if len(line) == 0:
        return ("tells", told)
    giver = hall.givers[line[-1]]
    giver.inner = None
    if told[0] == "fault":
        hall.rows.append(("hit", giver.number, told[1], told[2]))
        return ("runs", told)
    hall.rows.append(("back", giver.number, told[1]))
    return ("runs", ("send", told[1]))


def after_tells(hall, came):
    """The ask is answered: whoever asked goes on, or it is answered outside."""
    ask = hall.midst.pop()
    answer = answer_to(ask.how, came[1])
    if len(hall.midst) == 0:
        hall.rows.append(("answered", answer))
        return ("answered", answer)
    hall.rows.append(("told", runner(hall.midst), answer))
    return ("runs", answer)


AFTER = {
    "runs": after_runs,
    "gives": after_gives,
    "hands on": after_hands_on,
    "asks": after_asks,
    "ends": after_ends,
    "falls": after_falls,
    "comes": after_comes,
    "tells": after_tells,
}


def run_ask(hall, k, how):
    """Asks giver k of the hall from outside: ("answered", answer), or ("stopped",), the hall left in the midst."""
    hall.rows.append(("asked", k, how))
    hall.midst = [Ask(how, hall.chain_found(k))]
    came = meet_end(hall, how)
    while came[0] in AFTER:
        after = AFTER[came[0]]
        came = after(hall, came)
    return came
