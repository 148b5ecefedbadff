"""Promise 9: places, stands, tries."""

import copy
import unittest

from handedon.places import deed_at, places, stands_of, tries_of
from tests.samples import FULL_RULE, NONE, TINY_RULE, part_at, paths_in, var

NOTE = ("note", NONE)
GIVE = ("give", "x", NONE)
ON = ("on", "x", NONE)

FULL_PLACES = [
    (0,), (1,),
    (2,), (2, 0, 0), (2, 0, 0, 0, 0), (2, 0, 0, 0, 0, 0, 0), (2, 0, 0, 0, 0, 0, 0, 0, 0), (2, 0, 0, 0, 0, 0, 0, 0, 1),
    (2, 0, 0, 0, 0, 0, 0, 1, 0), (2, 0, 0, 0, 0, 1, 0), (2, 0, 0, 0, 0, 2, 0), (2, 0, 0, 1, 0),
    (3,), (3, 0, 0), (3, 1, 0), (3, 2, 0), (3, 2, 1), (3, 2, 1, 0, 0), (3, 2, 1, 1, 0),
    (4,), (4, 0, 0),
]


def a_try(many, lasts):
    """A rule with a try of so many catches."""
    return ("main", (), (("try", (GIVE,), (("any", "x", (ON,)),) * many, lasts),))


class PlacesTest(unittest.TestCase):
    def test_all_places_in_reading_order(self):
        self.assertEqual(places(FULL_RULE), FULL_PLACES)
        self.assertEqual(sorted(FULL_PLACES), FULL_PLACES)
        self.assertEqual(places(TINY_RULE), [(0,)])

    def test_reading_order_with_more_than_ten_deeds(self):
        rule = ("main", (), (NOTE,) * 9 + (("while", NONE, (NOTE,) * 12),) + (NOTE,) * 3)
        self.assertEqual(places(rule), sorted(places(rule)))
        self.assertEqual(len(places(rule)), 25)
        self.assertEqual(places(rule)[-4:], [(9, 0, 11), (10,), (11,), (12,)])

    def test_blocks_of_an_if_and_a_while(self):
        rule = ("main", (), (("if", NONE, (NOTE, NOTE), (GIVE,)), ("while", NONE, (ON,))))
        self.assertEqual(places(rule), [(0,), (0, 0, 0), (0, 0, 1), (0, 1, 0), (1,), (1, 0, 0)])

    def test_blocks_of_a_try(self):
        for many in range(4):
            rule = a_try(many, (NOTE, GIVE))
            catches = [(0, number, 0) for number in range(1, many + 1)]
            lasts = [(0, many + 1, 0), (0, many + 1, 1)]
            self.assertEqual(places(rule), [(0,), (0, 0, 0)] + catches + lasts)
            self.assertEqual(stands_of(rule), [(0, 0, 0)] + catches + lasts[1:])

    def test_deeds_at_their_places(self):
        deeds = [deed_at(FULL_RULE, place) for place in FULL_PLACES]
        self.assertEqual([deed[0] for deed in deeds], [
            "let", "note", "while", "if", "try", "try", "give", "leave", "on", "close", "fault", "leave",
            "try", "ask", "cast", "on", "try", "give", "note", "if", "end",
        ])
        self.assertEqual(deed_at(FULL_RULE, (3, 2, 0)), ("on", "a", var("i")))
        self.assertEqual(deed_at(FULL_RULE, (3,)), FULL_RULE[2][3])
        self.assertEqual(deed_at(a_try(2, (NOTE, GIVE)), (0, 3, 1)), GIVE)
        self.assertEqual(deed_at(a_try(2, (NOTE, GIVE)), (0, 2, 0)), ON)

    def test_deeds_are_plain_tuples(self):
        for place in FULL_PLACES:
            deed = deed_at(FULL_RULE, place)
            self.assertTrue(all(type(part_at(deed, path)) in (tuple, str, int) for path in paths_in(deed)))


class StandsTest(unittest.TestCase):
    def test_gives_and_ons_in_reading_order(self):
        self.assertEqual(stands_of(FULL_RULE), [
            (2, 0, 0, 0, 0, 0, 0, 0, 0), (2, 0, 0, 0, 0, 0, 0, 1, 0), (3, 2, 0), (3, 2, 1, 0, 0),
        ])

    def test_without_any(self):
        self.assertEqual(stands_of(TINY_RULE), [])
        rule = ("main", (), (("ask", "x", "y", NONE, NONE), ("close", NONE), ("cast", "x", "y", NONE, "w", NONE)))
        self.assertEqual(stands_of(rule), [])


class TriesTest(unittest.TestCase):
    def test_tries_that_have_lasts_in_reading_order(self):
        self.assertEqual(tries_of(FULL_RULE), [(2, 0, 0, 0, 0, 0, 0), (3,), (3, 2, 1)])

    def test_without_lasts_none(self):
        self.assertEqual(tries_of(TINY_RULE), [])
        for many in range(1, 4):
            self.assertEqual(tries_of(a_try(many, ())), [])
            self.assertEqual(tries_of(a_try(many, (NOTE,))), [(0,)])

    def test_an_if_with_elses_is_no_try(self):
        self.assertEqual(tries_of(("main", (), (("if", NONE, (NOTE,), (NOTE,)),))), [])


class AllOfItTest(unittest.TestCase):
    def test_kinds_of_what_is_told(self):
        for told in (places(FULL_RULE), stands_of(FULL_RULE), tries_of(FULL_RULE)):
            self.assertIs(type(told), list)
            for place in told:
                self.assertIs(type(place), tuple)
                self.assertTrue(all(type(number) is int for number in place))

    def test_what_is_told_is_the_askers_own(self):
        for asked in (places, stands_of, tries_of):
            first = asked(FULL_RULE)
            kept = list(first)
            first.clear()
            second = asked(FULL_RULE)
            self.assertEqual(second, kept)
            second.append("more")
            self.assertEqual(asked(FULL_RULE), kept)

    def test_nothing_is_changed(self):
        rule = copy.deepcopy(FULL_RULE)
        for asked in (places, stands_of, tries_of):
            asked(rule)
        deed_at(rule, (3, 2, 1, 1, 0))
        self.assertEqual(rule, FULL_RULE)

    def test_beyond_the_bounds_nothing_is_refused(self):
        rule = ("main", (), (GIVE,) * 33 + (("while", NONE, (("try", (NOTE,), (), (ON,)),) * 4),))
        self.assertEqual(len(places(rule)), 46)
        self.assertEqual(len(stands_of(rule)), 37)
        self.assertEqual(tries_of(rule), [(33, 0, 0), (33, 0, 1), (33, 0, 2), (33, 0, 3)])
        self.assertEqual(deed_at(rule, (33, 0, 3, 1, 0)), ON)


if __name__ == "__main__":
    unittest.main()
