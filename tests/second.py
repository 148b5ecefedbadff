"""A hall told a second time, in another way: a giver is a Python generator, faults, ends and leaves are Python's errors.

Asks within asks are calls within calls; a ring is found by following who leans on whom; an ask that is stopped is
undone by doing all that came ahead of it anew in a fresh world. A giver runs by its rule's tree, or by a code of it.
"""

from handedon.books import variables
from handedon.places import deed_at, stands_of, tries_of

NONE = ("none",)
SIGNS = {"+": int.__add__, "-": int.__sub__, "*": int.__mul__}


class Going(Exception):
    """What goes outward; `told` is how it is kept."""

    def __init__(self, *told):
        self.told = told


class Fault(Going):
    def __init__(self, word, worth):
        super().__init__("fault", word, worth)


class End(Going):
    pass


class Leave(Going):
    pass


class Stop(Exception):
    pass


class Run:
    """A giver of a world: its variables, and its generator once it has begun."""

    def __init__(self, world, k, rule, worths):
        self.world, self.k, self.rule = world, k, rule
        self.held = dict.fromkeys(variables(rule), NONE)
        self.held.update(zip(rule[1], worths))
        self.generator, self.ended, self.stand, self.pendings, self.inner = None, False, None, [], None

    def row(self, word, *parts):
        self.world.rows.append((word, self.k, *parts))

    def try_row(self, word, place):
        self.row(word, tries_of(self.rule).index(place))

    def worth(self, e):
        if e[0] == "var":
            return self.held[e[1]]
        if e[0] == "make":
            args = [self.worth(arg) for arg in e[2]]
            if len(self.world.runs) >= 100:
                raise Fault("full", NONE)
            return ("giver", self.world.make(e[1], args))
        if e[0] != "op":
            return e
        a, b = self.worth(e[2]), self.worth(e[3])
        if e[1] == "=":
            return ("number", int(a == b))
        if (a[0], b[0]) != ("number", "number"):
            raise Fault("kind", NONE)
        if e[1] == "<":
            return ("number", int(a[1] < b[1]))
        number = SIGNS[e[1]](a[1], b[1])
        if len(str(abs(number))) > 30:
            raise Fault("great", NONE)
        return ("number", number)

    def asks(self, deed):
        """An ask, cast or close deed."""
        g = self.worth(deed[1] if deed[0] == "close" else deed[3])
        how = ("close",)
        if deed[0] == "ask":
            how = ("send", self.worth(deed[4]))
        elif deed[0] == "cast":
            how = ("fault", deed[4], self.worth(deed[5]))
        if g[0] != "giver":
            raise Fault("kind", NONE)
        if self.world.asks == 12:
            raise Fault("deep", NONE)
        self.world.no_ring(self, "ask", g[1])
        self.row("ask", g[1], how)
        self.world.leans[self.k] = g[1]
        answer = self.world.answer(g[1], how)
        del self.world.leans[self.k]
        self.row("told", answer)
        if answer[0] == "fault":
            raise Fault(*answer[1:])
        if deed[0] != "close":
            self.held[deed[1]] = answer[1]
            self.held[deed[2]] = ("number", int(answer[0] == "given"))

    def stands(self, deed, place):
        """A give or an on, as a generator."""
        worth = self.worth(deed[2])
        if deed[0] == "on":
            if worth[0] != "giver":
                raise Fault("kind", NONE)
            self.world.no_ring(self, "on", worth[1])
            self.row("on", worth[1])
            self.inner = worth[1]
        else:
            self.row("give", worth)
        self.stand = stands_of(self.rule).index(place) + 1
        self.held[deed[1]] = yield (deed[0], worth)

    def simple(self, deed, place):
        """Each deed without others in it, as a generator; the step is counted already."""
        if deed[0] in ("give", "on"):
            yield from self.stands(deed, place)
        elif deed[0] in ("ask", "cast", "close"):
            self.asks(deed)
        elif deed[0] == "let":
            self.held[deed[1]] = self.worth(deed[2])
        elif deed[0] == "note":
            self.row("note", self.worth(deed[1]))
        elif deed[0] == "end":
            raise End("end", self.worth(deed[1]))
        elif deed[0] == "fault":
            raise Fault(deed[1], self.worth(deed[2]))
        else:
            raise Leave("leave")

    def says_yes(self, deed):
        self.world.step()
        return self.worth(deed[1]) not in (NONE, ("number", 0))

    def whole(self):
        """All of the giver's run, as a generator; tells what it ends with."""
        try:
            yield from self.world.way(self)
        except End as end:
            return end.told[1]
        return NONE


def tree_way(run):
    """Runs by the rule's tree."""
    return tree_block(run, run.rule[2], ())


def tree_block(run, block, ahead):
    for at, deed in enumerate(block):
        place = ahead + (at,)
        if deed[0] == "while":
            try:
                while run.says_yes(deed):
                    yield from tree_block(run, deed[2], place + (0,))
            except Leave:
                pass
        elif deed[0] == "if":
            number = 0 if run.says_yes(deed) else 1
            yield from tree_block(run, deed[2 + number], place + (number,))
        elif deed[0] == "try":
            run.world.step()
            yield from tree_try(run, deed, place)
        else:
            run.world.step()
            yield from run.simple(deed, place)


def tree_try(run, deed, place):
    if not deed[3]:
        yield from tree_catches(run, deed, place)
        return
    run.try_row("try", place)
    going = None
    try:
        yield from tree_catches(run, deed, place)
    except Going as other:
        going = other
    run.try_row("last", place)
    run.pendings.append(going.told if going else ("go",))
    try:
        yield from tree_block(run, deed[3], place + (len(deed[2]) + 1,))
    finally:
        run.pendings.pop()
    if going:
        raise going


def tree_catches(run, deed, place):
    """The try's own block, and the catch that takes a fault out of it."""
    try:
        yield from tree_block(run, deed[1], place + (0,))
        return
    except Fault as fault:
        word, worth = fault.told[1:]
        takes = [n for n, catch in enumerate(deed[2]) if catch[0] in (word, "any")]
        if not takes:
            raise
    caught, name, block = deed[2][takes[0]]
    run.held[name] = worth
    yield from tree_block(run, block, place + (takes[0] + 1,))


def is_inside(place, outer):
    """Whether the place lies in some block of the deed at the outer place."""
    return len(place) > len(outer) and place[:len(outer)] == outer


def innermost_while(rule, place):
    whiles = [place[:n] for n in range(1, len(place), 2) if deed_at(rule, place[:n])[0] == "while"]
    return whiles[-1] if whiles else None


def lasts_count(rule, place):
    """How many blocks of lasts are around the place."""
    outers = [(deed_at(rule, place[:n]), place[n]) for n in range(1, len(place), 2)]
    return len([deed for deed, number in outers if deed[0] == "try" and number == len(deed[2]) + 1])


def code_way(codes):
    """Runs by the code of the rule, as the rows are told to run."""
    def way(run):
        return code_run(run, *codes[run.rule])
    return way


def code_run(run, rows, guards):
    at, guarded = 0, False
    while rows[at] != ("done",):
        row = rows[at]
        if row[0] == "jump":
            # Lasts to which a guard leads through jumps are come to by the guard.
            at = row[1]
            continue
        came_by_guard, guarded = guarded, False
        try:
            at = yield from code_row(run, rows, at, came_by_guard)
        except Going as going:
            at, guarded = code_goes(run, guards, going, at, row)


def code_row(run, rows, at, guarded):
    """Does one row; tells the number of the next one."""
    row = rows[at]
    if row[0] == "last":
        run.try_row("last", row[1])
        if not guarded:
            run.pendings.append(("go",))
        return at + 1
    if row[0] == "resume":
        pending = run.pendings.pop()
        if pending != ("go",):
            raise {"fault": Fault, "end": End, "leave": Leave}[pending[0]](*pending[pending[0] == "fault":])
        return at + 1
    deed = deed_at(run.rule, row[1])
    if row[0] == "test":
        return at + 1 if run.says_yes(deed) else row[2]
    run.world.step()
    if row[0] == "open":
        if deed[3]:
            run.try_row("try", row[1])
    else:
        yield from run.simple(deed, row[1])
    return at + 1


def code_goes(run, guards, going, at, row):
    """The number of the row to which it goes, and whether a guard leads to a last."""
    bound = innermost_while(run.rule, row[1]) if isinstance(going, Leave) else None
    for first, beyond, place, catches, last in guards:
        if not first <= at < beyond:
            continue
        outer = lasts_count(run.rule, place)
        if isinstance(going, Fault) and catches:
            for (caught, name, block), number in zip(deed_at(run.rule, place)[2], catches):
                if caught in (going.told[1], "any"):
                    del run.pendings[outer:]
                    run.held[name] = going.told[2]
                    return number, False
        if last != -1 and (bound is None or is_inside(place, bound)):
            run.pendings[outer:] = [going.told]
            return last, True
    if bound is None:
        raise going
    del run.pendings[lasts_count(run.rule, bound):]
    return row[2], False


class World:
    """A hall that can't be undone."""

    def __init__(self, book, most, way):
        self.book, self.most, self.way = book, most, way
        self.runs, self.rows, self.leans = [], [], {}
        self.steps, self.hops, self.left, self.asks = 0, 0, 0, 0

    def make(self, name, worths):
        rule = [rule for rule in self.book if rule[0] == name][0]
        self.runs.append(Run(self, len(self.runs), rule, worths))
        return len(self.runs) - 1

    def step(self):
        if self.left == 0:
            raise Stop
        self.left -= 1
        self.steps += 1

    def chain(self, k):
        inner = self.runs[k].inner
        return [k] if inner is None else [k] + self.chain(inner)

    def no_ring(self, run, word, g):
        """Looks for the ring: whether who leans on whom leads from g back to the one that runs."""
        self.hops += len(self.chain(g))
        ring, k = [(run.k, word)], g
        while k is not None and k != run.k:
            inner = self.runs[k].inner
            ring.append((k, "ask" if inner is None else "on"))
            k = self.leans.get(k) if inner is None else inner
        if k is not None:
            run.row("ring", tuple(ring))
            raise Fault("ring", NONE)

    def outside(self, k, how):
        self.left, self.asks = self.most, 0
        self.hops += len(self.chain(k))
        self.rows.append(("asked", k, how))
        answer = self.answer(k, how)
        self.rows.append(("answered", answer))
        return answer

    def answer(self, k, how):
        self.asks += 1
        told = self.along(self.chain(k), ("fault", "close", NONE) if how == ("close",) else how)
        self.asks -= 1
        if how != ("close",):
            return told
        if told[0] == "given":
            return ("fault", "gives", NONE)
        return ("closed",) if told[0] == "ended" or told[1] == "close" else told

    def along(self, line, how):
        """Asks the end of the line, then those ahead of it, as long as they end."""
        told = self.wake(line, how)
        while told[0] != "given":
            line.pop()
            if not line:
                break
            run = self.runs[line[-1]]
            run.inner = None
            run.row("hit" if told[0] == "fault" else "back", *told[1:])
            told = self.wake(line, told if told[0] == "fault" else ("send", told[1]))
        return told

    def wake(self, line, how):
        """The line's end goes on by how; as long as it hands on, the line becomes longer."""
        while True:
            run = self.runs[line[-1]]
            told = self.wake_one(run, how)
            if told[0] != "on":
                return told
            line.extend(self.chain(told[1][1]))
            how = ("send", NONE)

    def wake_one(self, run, how):
        if run.ended:
            return ("ended", NONE) if how[0] == "send" else how
        try:
            if run.generator is None:
                if how[0] == "fault":
                    raise Fault(*how[1:])
                run.row("begin")
                run.generator = run.whole()
                word, worth = next(run.generator)
            elif how[0] == "send":
                word, worth = run.generator.send(how[1])
            else:
                word, worth = run.generator.throw(Fault(*how[1:]))
        except StopIteration as stop:
            run.ended = True
            run.row("end", stop.value)
            return ("ended", stop.value)
        except Fault as fault:
            run.ended = True
            run.row("out", *fault.told[1:])
            return fault.told
        return ("given", worth) if word == "give" else (word, worth)


class SecondHall:
    """The hall: a world, and what was done in it, to do it anew."""

    def __init__(self, book, most, way=tree_way):
        self.parts, self.done = (book, most, way), []
        self.world = World(*self.parts)

    def make(self, name, worths):
        self.done.append(("make", name, worths))
        return self.world.make(name, worths)

    def ask(self, k, how):
        try:
            answer = self.world.outside(k, how)
        except Stop:
            self.world = World(*self.parts)
            for word, *args in self.done:
                self.world.make(*args) if word == "make" else self.world.outside(*args)
            return ("stopped",)
        self.done.append(("ask", k, how))
        return answer

    def state(self, k):
        run = self.world.runs[k]
        if run.ended or run.generator is None:
            return ("ended",) if run.ended else ("new",)
        return ("gives", run.stand) if run.inner is None else ("hands on", run.stand, run.inner)

    def worths(self, k):
        run = self.world.runs[k]
        return () if run.ended else tuple(run.held[name] for name in variables(run.rule))

    def keep(self):
        kept = []
        for k, run in enumerate(self.world.runs):
            state = self.state(k)
            if state[0] in ("gives", "hands on"):
                state = ("stands", run.stand, tuple(run.pendings), run.inner)
            kept.append((run.rule[0], state, self.worths(k)))
        return tuple(kept)

    def chain(self, k):
        return self.world.chain(k)

    def many(self):
        return len(self.world.runs)

    def steps(self):
        return self.world.steps

    def hops(self):
        return self.world.hops

    def record(self):
        return tuple(self.world.rows)
