"""Codes shortened: no number tells a jump, and rows that nothing reaches are left out."""

from handedon.coderows import goes_by_guards, has_next, holds, led_from, tells_number
from handedon.guards import guards_over


def row_renumbered(row, numbers):
    """The row, with another number, as these tell, where it tells one."""
    return row[:-1] + (numbers[row[-1]],) if tells_number(row) else row


def guard_renumbered(guard, numbers):
    """The guard, with other numbers, as these tell, of its catches and its last."""
    return guard[:3] + (tuple([numbers[number] for number in guard[3]]), numbers[guard[4]])


def leads_of(rows):
    """For each number of a row that of the row to which jumps lead on from it; -1 stays."""
    leads = {number: led_from(rows, number) for number in range(len(rows))}
    leads[-1] = -1
    return leads


def told_from(rows, guards, number):
    """The numbers that are reached straight from the row of this number, -1 perhaps among them."""
    row = rows[number]
    told = [number + 1] if has_next(row) else []
    if tells_number(row):
        told.append(row[-1])
    if goes_by_guards(row):
        for guard in guards_over(guards, number):
            told.extend(guard[3] + (guard[4],))
    return told


def reached_of(rows, guards):
    """The numbers of all rows that are reached, rising."""
    due = [0] + [number for number, row in enumerate(rows) if row[0] == "stand"]
    reached = {}
    while len(due) > 0:
        number = due.pop()
        if number != -1 and number not in reached:
            reached[number] = True
            due.extend(told_from(rows, guards, number))
    return sorted(reached)


def is_needed(guard, rows, reached):
    """Whether the guard holds a reached row from which something goes by guards."""
    return any([holds(guard, number) and goes_by_guards(rows[number]) for number in reached])


def guard_shortened(guard, anew, reached):
    """The guard where only the reached rows are left, which are numbered anew."""
    first = len([number for number in reached if number < guard[0]])
    beyond = len([number for number in reached if number < guard[1]])
    return (first, beyond) + guard_renumbered(guard, anew)[2:]


def shortened(code):
    """The code shortened."""
    leads = leads_of(code[0])
    rows = [row_renumbered(row, leads) for row in code[0]]
    guards = [guard_renumbered(guard, leads) for guard in code[1]]
    reached = reached_of(rows, guards)
    anew = {number: at for at, number in enumerate(reached)}
    anew[-1] = -1
    needed = [guard for guard in guards if is_needed(guard, rows, reached)]
    return (
        tuple([row_renumbered(rows[number], anew) for number in reached]),
        tuple([guard_shortened(guard, anew, reached) for guard in needed]),
    )
