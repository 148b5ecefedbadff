"""Promises 3, 14 to 23 and 31: the walker's hall beside a second one that is written in another way, on lively books."""

import unittest

from handedon.codes import code_of, codes_of
from handedon.looker import lets_record
from handedon.shorter import shortened
from handedon.treehall import TreeHall
from tests.code_making import varied
from tests.halling import STOPPED, whole
from tests.lively import Lively, most_of
from tests.second import SecondHall, code_way, tree_way

SEEDS = 600


class AlikeTest(unittest.TestCase):
    def alike(self, seeds, way_of):
        """All that both halls tell, behind each ask, is the same; tells how often each row and answer came."""
        counts = {}
        for seed in seeds:
            lively = Lively(seed)
            book, most = lively.book(), most_of(seed)
            first, second = TreeHall(book, most), SecondHall(book, most, way_of(book))
            for number in range(14):
                if number in (0, 1, 2, 3, 9) and first.many() < 100:
                    made = lively.making(first.many())
                    self.assertEqual(first.make(*made), second.make(*made))
                asked = lively.asking(first.many())
                before = whole(first)
                answer = first.ask(*asked)
                self.assertEqual(answer, second.ask(*asked), (seed, number))
                self.assertEqual(whole(first), whole(second), (seed, number))
                if answer == STOPPED:
                    self.assertEqual(whole(first), before)
                counts[answer[0]] = counts.get(answer[0], 0) + 1
            self.assertTrue(lets_record(book, (), first.record()))
            self.lasts_come_once(first)
            for row in first.record():
                counts[row[0]] = counts.get(row[0], 0) + 1
        return counts

    def lasts_come_once(self, hall):
        """Lasts of a try that was begun are begun just once, inner ones first, and all of one that has ended."""
        tries = {k: [] for k in range(hall.many())}
        for row in hall.record():
            if row[0] == "try":
                tries[row[1]].append(row[2])
            elif row[0] == "last":
                self.assertEqual(tries[row[1]].pop(), row[2])
        for k in range(hall.many()):
            if hall.state(k) == ("ended",):
                self.assertEqual(tries[k], [])

    def test_by_trees(self):
        counts = self.alike(range(SEEDS), lambda book: tree_way)
        for word, least in (("stopped", 100), ("closed", 100), ("given", 1000), ("back", 50), ("hit", 50), ("told", 300),
                            ("ring", 20), ("last", 300), ("end", 100), ("out", 300)):
            self.assertGreater(counts[word], least, word)

    def test_by_codes(self):
        self.alike(range(SEEDS, SEEDS + 200), lambda book: code_way(dict(zip(book, codes_of(book)))))

    def test_by_other_codes(self):
        """Whatever is a code of a rule runs as the rule does: varied ones, and these shortened."""
        for make in (varied, lambda code, seed: shortened(varied(code, seed))):
            self.alike(range(SEEDS, SEEDS + 150), lambda book: code_way({rule: make(code_of(rule), len(repr(rule))) for rule in book}))


if __name__ == "__main__":
    unittest.main()
