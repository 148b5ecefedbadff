"""The looker at codes: whether a thing is a code of a rule."""

from handedon.coderows import ROW_WORDS, due_of, goes_by_guards, has_next, led_from, left_to, stands_for, tells_number
from handedon.goes import behind, goes_of, lasts_number, while_around
from handedon.guards import guarded, guards_over
from handedon.places import deed_at, has_lasts, places, stands_of
from handedon.shapes import deeds_of
from handedon.worths import NONE, is_below, is_whole

MOST_ROWS = 300
MOST_GUARDS = 100
# For each row's word the kinds of its other parts, in order.
ROW_SHAPES = {
    "deed": ("place",),
    "stand": ("place",),
    "test": ("place", "number"),
    "open": ("place",),
    "end": ("place",),
    "fault": ("place",),
    "leave": ("place", "number"),
    "last": ("place",),
    "resume": ("place", "number or -1"),
    "jump": ("number",),
    "done": (),
}


class Look:
    """A look at a thing that has the form of a code: `leads` tells for each number where jumps lead on from it."""

    def __init__(self, rule, code):
        self.rule = rule
        self.rows = code[0]
        self.guards = code[1]
        self.leads = [led_from(code[0], number) for number in range(len(code[0]))]


def is_place(deeds, thing):
    """Whether the thing is the place of one of the deeds: to Python a truth in it would be a number."""
    return isinstance(thing, tuple) and all([is_whole(part) for part in thing]) and thing in deeds


def is_number(thing, many):
    """Whether the thing is the number of one of so many rows, or -1."""
    return is_below(thing, many) or thing == -1


def is_code_part(deeds, many, kind, part):
    """Whether the part of a row is of this kind."""
    if kind == "place":
        return is_place(deeds, part)
    if kind == "number":
        return is_below(part, many)
    return is_number(part, many)


def is_code_row(deeds, many, thing):
    """Whether the thing has the form of a row, of a code of so many."""
    if not isinstance(thing, tuple) or len(thing) == 0 or not isinstance(thing[0], str):
        return False
    shape = ROW_SHAPES.get(thing[0])
    if shape is None or len(thing) != len(shape) + 1:
        return False
    if not all([is_code_part(deeds, many, kind, part) for kind, part in zip(shape, thing[1:])]):
        return False
    if "place" not in shape:
        return True
    deed = deeds[thing[1]]
    if thing[0] == "last" or thing[0] == "resume":
        return has_lasts(deed)
    return thing[0] == ROW_WORDS[deed[0]]


def is_guard(deeds, many, thing):
    """Whether the thing has the form of a guard, of a code of so many rows."""
    if not isinstance(thing, tuple) or len(thing) != 5:
        return False
    first, beyond, place, catches, last = thing
    # Both may also be the count of rows.
    if not is_below(first, many + 1) or not is_below(beyond, many + 1):
        return False
    if not is_place(deeds, place) or deeds[place][0] != "try":
        return False
    if not isinstance(catches, tuple) or len(catches) not in (0, len(deeds[place][2])):
        return False
    return all([is_below(number, many) for number in catches]) and is_number(last, many)


def has_code_form(rule, thing):
    """Whether the thing has the form of a code of the rule."""
    if not isinstance(thing, tuple) or len(thing) != 2:
        return False
    rows, guards = thing
    if not isinstance(rows, tuple) or not 1 <= len(rows) <= MOST_ROWS:
        return False
    if not isinstance(guards, tuple) or len(guards) > MOST_GUARDS:
        return False
    deeds = {place: deed_at(rule, place) for place in places(rule)}
    if not all([is_code_row(deeds, len(rows), row) for row in rows]):
        return False
    return all([is_guard(deeds, len(rows), guard) for guard in guards])


def is_led(look, number, told):
    """Whether from this number what is told, as `behind` does, is led to."""
    return stands_for(look.rows[look.leads[number]]) == due_of(told)


def next_due(rule, row):
    """What is to be led to from the row behind this one."""
    place = row[1]
    if row[0] == "test" or row[0] == "open":
        return ("deed", place + (0, 0))
    if row[0] == "last":
        return ("deed", place + (lasts_number(deed_at(rule, place)), 0))
    return behind(rule, place)


def told_due(rule, row):
    """What is to be led to from the number that the row, no jump, tells; -1 where it is to be that."""
    if row[0] != "test":
        return left_to(rule, row[1])
    deed = deed_at(rule, row[1])
    if deed[0] == "if" and len(deed[3]) > 0:
        return ("deed", row[1] + (1, 0))
    return behind(rule, row[1])


def leads_well(look, number):
    """Whether the row of this number leads where it is to."""
    row = look.rows[number]
    if has_next(row) and not is_led(look, number + 1, next_due(look.rule, row)):
        return False
    if row[0] == "jump" or not tells_number(row):
        return True
    due = told_due(look.rule, row)
    if due == -1 or row[2] == -1:
        return due == row[2]
    return is_led(look, row[2], due)


def faults_of(rule):
    """A fault of each word that a catch of the rule takes, and one that only a catch of any takes."""
    words = [caught for deed in deeds_of(rule[2]) if deed[0] == "try" for caught, name, block in deed[2]]
    return [("fault", word, NONE) for word in sorted(set(words + [""]))]


def goes_well(look, over, place, thing):
    """Whether the fault, end or leave goes by the guards over a row of this place where it is to go."""
    goes = goes_of(look.rule, place, thing)
    found = guarded(look.rule, over, place, thing)
    if goes[0] == "out" or goes[0] == "behind":
        return found is None
    if found is None or found[0] != goes:
        return False
    if goes[0] == "catch":
        return is_led(look, found[1], ("deed", goes[1] + (goes[2] + 1, 0)))
    return is_led(look, found[1], goes)


def is_guarded_well(look, number, faults):
    """Whether from the row of this number all goes by the guards where it is to go."""
    row = look.rows[number]
    if not goes_by_guards(row):
        return True
    things = faults + [("end", NONE)]
    if while_around(look.rule, row[1]) is not None:
        things.append(("leave",))
    over = guards_over(look.guards, number)
    return all([goes_well(look, over, row[1], thing) for thing in things])


def begins_well(look):
    """Whether jumps lead on to rows, each row that needs a next one has it, row 0 begins, and each stand has a row."""
    if None in look.leads or has_next(look.rows[-1]) or not is_led(look, 0, ("deed", (0,))):
        return False
    return all([("stand", place) in look.rows for place in stands_of(look.rule)])


def is_code(rule, thing):
    """Whether the thing is a code of the rule."""
    if not has_code_form(rule, thing):
        return False
    look = Look(rule, thing)
    if not begins_well(look):
        return False
    if not all([leads_well(look, number) for number in range(len(look.rows))]):
        return False
    faults = faults_of(rule)
    return all([is_guarded_well(look, number, faults) for number in range(len(look.rows))])
