"""Codes made anew out of a code: the rows in another order, twice, with jumps between, guards in pieces or for nothing.

Whatever is done here to a code of a rule, it stays one, as long as it has no more rows and guards than a code may have.
"""

import random

NO_NEXT = ("jump", "done", "end", "fault", "leave")
TELLS = ("test", "jump", "leave", "resume")


def renumbered(code, row_number, bound):
    """The same code, each number of a row but -1, and each bound of a guard, exchanged for what these tell of it."""
    def anew(number):
        return -1 if number == -1 else row_number(number)
    rows = tuple(row[:-1] + (anew(row[-1]),) if row[0] in TELLS else row for row in code[0])
    guards = tuple((bound(first), bound(beyond), place, tuple(map(anew, catches)), anew(last))
                   for first, beyond, place, catches, last in code[1])
    return rows, guards


def with_jump_at(code, at, through):
    """A jump laid in ahead of row `at`; numbers of that row lead through the jump or not."""
    rows, guards = renumbered(code, lambda t: t + (t > at or t == at and not through), lambda t: t + (t > at))
    return rows[:at] + (("jump", at + 1),) + rows[at:], guards


def with_empty_guard(code, at, guard):
    """A guard more, at this place among the guards."""
    return code[0], code[1][:at] + (guard,) + code[1][at:]


def with_pieces(code, at, middle):
    """Guard number `at` in two pieces."""
    first, beyond, *rest = code[1][at]
    pieces = ((first, middle, *rest), (middle, beyond, *rest))
    return code[0], code[1][:at] + pieces + code[1][at + 1:]


def with_row_twice(code, at):
    """Row `at` a second time, behind all others, with a jump behind it; numbers of it lead to the second one."""
    rows, guards = code
    many = len(rows)
    again = (rows[at],) if rows[at][0] in NO_NEXT else (rows[at], ("jump", at + 1))
    held = []
    for guard in guards:
        held.append(guard)
        if guard[0] <= at < guard[1]:
            held.append((many, many + 1) + guard[2:])
    # The bounds of the old guards stay, the numbers of the row become those of its second one.
    return renumbered((rows + again, tuple(held)), lambda t: many if t == at else t, lambda t: t)


def padded(code, rows, guards):
    """The code with rows that nothing reaches and guards that hold nothing, up to so many of each."""
    place = code[1][0][2] if code[1] else None
    empty = ((0, 0, place, (), -1),) * (guards - len(code[1])) if place else ()
    return code[0] + (("done",),) * (rows - len(code[0])), code[1] + empty


class Varied:
    """Another code of the same rule, made by chance."""

    def __init__(self, code, seed):
        self.chance = random.Random(seed)
        self.rows, self.guards = code
        self.out, self.places = [], {}

    def lead(self, number):
        while self.rows[number][0] == "jump":
            number = self.rows[number][1]
        return number

    def order(self, cuts):
        """The rows but jumps, some of them twice, told as (number, which of them), cut into parts in any order."""
        nodes = [(number, 0) for number, row in enumerate(self.rows) if row[0] != "jump"]
        twice = [(number, 1) for number, which in nodes if self.chance.randrange(8) == 0]
        at = sorted(self.chance.randrange(len(nodes)) for _ in range(cuts))
        parts = [nodes[a:b] for a, b in zip([0] + at, at + [len(nodes)])] + [[node] for node in twice]
        self.chance.shuffle(parts)
        return [node for part in parts for node in part]

    def node(self, number, nodes):
        """The node of the row to which this number leads, or its second one."""
        number = self.lead(number)
        return (number, 1) if (number, 1) in nodes and self.chance.randrange(2) else (number, 0)

    def made(self, cuts):
        """The code with the rows cut so often; numbers are nodes till the end."""
        nodes = self.order(cuts)
        if nodes[0] != (self.lead(0), 0) or self.chance.randrange(4) == 0:
            self.jump(self.node(0, nodes))
        for at, node in enumerate(nodes):
            self.row(node, nodes, nodes[at + 1:at + 2])
        guards = self.guards_made(nodes)
        rows = []
        for at, row in enumerate(self.out):
            if row[0] in TELLS and row[-1] != -1:
                # Jumps lead through later ones alone, so never round.
                row = row[:-1] + (self.through(row[-1], at + 1 if row[0] == "jump" else 0),)
            rows.append(row)
        return tuple(rows), tuple(guards)

    def jump(self, node):
        self.out.append(("jump", node))

    def through(self, node, first):
        """The place of the node, or of a jump to it, from the first such one on."""
        jumps = [at for at, row in enumerate(self.out) if row == ("jump", node) and at >= first]
        return self.chance.choice(jumps) if jumps and self.chance.randrange(2) else self.places[node]

    def row(self, node, nodes, behind):
        row = self.rows[node[0]]
        self.places[node] = len(self.out)
        if row[0] in TELLS and row[-1] != -1:
            row = row[:-1] + (self.node(row[-1], nodes),)
        self.out.append(row)
        if row[0] not in NO_NEXT:
            after = self.node(node[0] + 1, nodes)
            if [after] != behind or self.chance.randrange(6) == 0:
                self.jump(after)
        if row[0] in NO_NEXT or self.out[-1][0] == "jump":
            if self.chance.randrange(9) == 0:
                # Nothing reaches it, but what leads to its node may lead through it, as below.
                self.jump(self.chance.choice(nodes))

    def guards_made(self, nodes):
        made = []
        for first, beyond, place, catches, last in self.guards:
            held = {self.places[node] for node in nodes if first <= node[0] < beyond}
            for low, high in self.pieces(held):
                numbers = tuple(self.through(self.node(number, nodes), 0) for number in catches)
                made.append((low, high, place, numbers, -1 if last == -1 else self.through(self.node(last, nodes), 0)))
            if self.chance.randrange(5) == 0:
                many = len(self.out)
                high = self.chance.randint(0, many)
                low = self.chance.randint(high, many)
                made.insert(self.chance.randint(0, len(made)), (low, high, place, (), self.chance.randint(-1, many - 1)))
        return made

    def pieces(self, held):
        """Bounds that hold just these rows, and perhaps jumps, dones and lasts, in any order."""
        pieces, low = [], None
        for at, row in enumerate(self.out + [("stop", ())]):
            free = row[0] in ("jump", "done", "last") and self.chance.randrange(2)
            inside = at in held and row[0] != "last" or low is not None and free
            if inside and low is None:
                low = at
            elif inside and self.chance.randrange(12) == 0:
                pieces.append((low, at))
                low = at
            elif not inside and low is not None:
                pieces.append((low, at))
                low = None
        self.chance.shuffle(pieces)
        return pieces


def varied(code, seed):
    """Another code of the same rule, within the bounds."""
    cuts = random.Random(seed).choice((0, 1, 3, 6, 12, 40))
    while True:
        made = Varied(code, seed).made(cuts)
        if len(made[0]) <= 300 and len(made[1]) <= 100:
            return made
        if cuts == 0:
            return code
        cuts //= 2
