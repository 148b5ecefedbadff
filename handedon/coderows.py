"""The rows and guards of codes: their words, the numbers that they tell, and where jumps lead."""

from handedon.goes import behind, while_around

# For the first word of each deed that of its row.
ROW_WORDS = {
    "let": "deed",
    "note": "deed",
    "ask": "deed",
    "cast": "deed",
    "close": "deed",
    "give": "stand",
    "on": "stand",
    "if": "test",
    "while": "test",
    "try": "open",
    "end": "end",
    "fault": "fault",
    "leave": "leave",
}


def has_next(row):
    """Whether the row may be followed by the next one."""
    return row[0] not in ("jump", "done", "end", "fault", "leave")


def tells_number(row):
    """Whether the row's last part is the number of a row, or -1."""
    return row[0] in ("test", "jump", "leave", "resume")


def goes_by_guards(row):
    """Whether faults, ends and leaves go from the row by the guards that hold it."""
    return row[0] not in ("jump", "done", "last")


def holds(guard, number):
    """Whether the guard holds the row of this number."""
    return guard[0] <= number < guard[1]


def stands_for(row):
    """What `behind` tells where this row, which is no jump, is to come."""
    if row[0] == "done":
        return ("end",)
    if row[0] == "last" or row[0] == "resume":
        return row[:2]
    return ("deed", row[1])


def due_of(told):
    """The same as `behind` tells it, but that a while's expression is reckoned again by its deed's row."""
    return ("deed", told[1]) if told[0] == "test" else told


def left_to(rule, place):
    """What comes where a leave goes from the place to no lasts; -1 where no while is around it."""
    outer = while_around(rule, place)
    return -1 if outer is None else behind(rule, outer)


def led_from(rows, number):
    """The number of the row to which jumps lead on from this number; None where they lead round for ever."""
    jumps = 0
    while rows[number][0] == "jump":
        if jumps == len(rows):
            return None
        jumps += 1
        number = rows[number][1]
    return number
