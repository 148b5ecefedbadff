"""Hops told a second time, in another way: from the record alone, and what the hall was taken up from."""


class Hops:
    """Goes over a record; `walker` and `machine` are the hops of either hall, of all finds in it."""

    def __init__(self, kept=()):
        self.walker = self.machine = self.finds = self.links = 0
        self.rows, self.begun, self.found = {}, set(), set()
        # For each giver that hands on the name of this handing on, and to whom it goes.
        self.handing = {}
        for k, (name, state, worths) in enumerate(kept):
            if state != ("new",):
                self.begun.add(k)
            if state[0] == "stands" and state[3] is not None:
                self.hand_on(k, state[3])

    def hand_on(self, k, g):
        self.links += 1
        self.handing[k] = (self.links, g)

    def follow(self, record):
        for row in record:
            if row[0] == "asked":
                self.find(row[1], True)
            elif row[0] == "ask":
                self.find(row[2], True)
            elif row[0] == "on":
                self.find(row[2], row[2] in self.begun)
                self.hand_on(row[1], row[2])
            elif row[0] == "ring":
                self.find(row[2][1][0] if len(row[2]) > 1 else row[1], True)
            elif row[0] in ("back", "hit"):
                del self.handing[row[1]]
            elif row[0] in ("begin", "out"):
                self.begun.add(row[1])
        return self

    def find(self, g, counts):
        """A find of g; one that was new, by an on deed, doesn't count among those that bound the hops."""
        if counts:
            self.found.add(g)
        standing = {name for name, inner in self.handing.values()}
        old = self.rows.get(g, [])
        stay = [link for link in old if link[0] in standing]
        chain = [g]
        new = []
        while chain[-1] in self.handing:
            new.append(self.handing[chain[-1]])
            chain.append(new[-1][1])
        # What stays is the beginning of the chain as it is now.
        assert new[:len(stay)] == stay and old[:len(stay)] == stay
        self.rows[g] = new
        self.finds += 1
        self.walker += len(chain)
        self.machine += 1 + len(old) - len(stay) + len(new) - len(stay)

    def bound(self):
        return self.finds + 2 * self.links * len(self.found)
