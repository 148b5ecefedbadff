"""Promises 12 and 13: where faults, ends and leaves go, and what comes behind a deed."""

import copy
import unittest

from handedon.goes import behind, end_goes, fault_goes, lasts_around, leave_goes, tries_around, while_around
from handedon.places import places
from tests.makers import books
from tests.samples import FULL_RULE, NONE, TINY_RULE

NOTE = ("note", NONE)
OUT = ("out",)


def rule(*deeds):
    return ("main", (), deeds)


def a_try(block, catches=(), lasts=()):
    """A try whose catches are told as pairs of what is caught and a block."""
    return ("try", block, tuple((caught, "x", inner) for caught, inner in catches), lasts)


def a_while(*block):
    return ("while", NONE, block)


def ways_down(block, ahead, ways, after, told):
    """What is told of each place, found from the rule's outside inward, the other way round.

    The ways are where a fault of a word, an end and a leave go from this block; after is what comes behind it.
    """
    fault, end, leave = ways
    for at, deed in enumerate(block):
        place = ahead + (at,)
        follows = ("deed", ahead + (at + 1,)) if at + 1 < len(block) else after
        told[place] = (fault, end, leave, follows)
        if deed[0] == "if":
            ways_down(deed[2], place + (0,), ways, follows, told)
            ways_down(deed[3], place + (1,), ways, follows, told)
        elif deed[0] == "while":
            ways_down(deed[2], place + (0,), (fault, end, ("behind", place)), ("test", place), told)
        elif deed[0] == "try":
            ways_of_try(deed, place, ways, follows, told)


def ways_of_try(deed, place, ways, follows, told):
    last = ("last", place)
    mid, after = ((lambda word: last, last, last if ways[2] else None), last) if deed[3] else (ways, follows)

    def own(word):
        for number, catch in enumerate(deed[2]):
            if catch[0] in (word, "any"):
                return ("catch", place, number)
        return mid[0](word)

    ways_down(deed[1], place + (0,), (own, mid[1], mid[2]), after, told)
    for number, catch in enumerate(deed[2]):
        ways_down(catch[2], place + (number + 1,), mid, after, told)
    ways_down(deed[3], place + (len(deed[2]) + 1,), ways, ("resume", place), told)


class GoesTest(unittest.TestCase):
    def faults(self, rule, place, told):
        """told: for each word where its fault goes."""
        for word, goes in told.items():
            self.assertEqual(fault_goes(rule, place, word), goes, (place, word))


class FaultTest(GoesTest):
    def test_without_a_try_it_goes_out(self):
        deeds = rule(NOTE, ("if", NONE, (NOTE,), (NOTE,)), a_while(NOTE))
        for place in places(deeds):
            self.faults(deeds, place, {"ring": OUT, "a": OUT})

    def test_to_the_first_catch_that_takes_the_word(self):
        deeds = rule(a_try((NOTE, NOTE), (("ring", (NOTE,)), ("kind", (NOTE,)), ("ring", (NOTE,)))))
        for place in ((0, 0, 0), (0, 0, 1)):
            self.faults(deeds, place, {"ring": ("catch", (0,), 0), "kind": ("catch", (0,), 1), "great": OUT})

    def test_any_takes_each_word(self):
        deeds = rule(NOTE, a_try((NOTE,), (("ring", (NOTE,)), ("any", (NOTE,)), ("kind", (NOTE,)))))
        catch = ("catch", (1,), 1)
        self.faults(deeds, (1, 0, 0), {
            "ring": ("catch", (1,), 0), "kind": catch, "close": catch, "abcdefgh": catch, "z": catch, "none": catch,
        })

    def test_a_word_is_taken_whole(self):
        deeds = rule(a_try((NOTE,), (("ring", (NOTE,)),)))
        self.faults(deeds, (0, 0, 0), {"rin": OUT, "rings": OUT, "r": OUT, "ring": ("catch", (0,), 0)})

    def test_words_like_those_of_the_language(self):
        deeds = rule(a_try((NOTE,), (("if", (NOTE,)), ("last", (NOTE,)), ("catch", (NOTE,)))))
        self.faults(deeds, (0, 0, 0), {
            "if": ("catch", (0,), 0), "last": ("catch", (0,), 1), "catch": ("catch", (0,), 2), "out": OUT, "while": OUT,
        })

    def test_a_catch_ahead_of_the_lasts_else_the_lasts(self):
        deeds = rule(a_try((NOTE,), (("ring", (NOTE,)),), (NOTE,)))
        self.faults(deeds, (0, 0, 0), {"ring": ("catch", (0,), 0), "kind": ("last", (0,))})

    def test_out_of_a_catch_no_catch_of_its_try_takes_it(self):
        catches = (("ring", (NOTE,)), ("any", (NOTE,)))
        with_lasts, without = rule(a_try((NOTE,), catches, (NOTE,))), rule(a_try((NOTE,), catches))
        for place in ((0, 1, 0), (0, 2, 0)):
            self.faults(with_lasts, place, {"ring": ("last", (0,)), "kind": ("last", (0,))})
            self.faults(without, place, {"ring": OUT, "kind": OUT})

    def test_out_of_lasts_it_goes_past_their_try(self):
        inner = a_try((NOTE,), (("any", (NOTE,)),), (NOTE, NOTE))
        self.faults(rule(inner), (0, 2, 0), {"ring": OUT})
        deeds = rule(a_try((inner,), (("ring", (NOTE,)),), (NOTE,)))
        for place in ((0, 0, 0, 2, 0), (0, 0, 0, 2, 1)):
            self.faults(deeds, place, {"ring": ("catch", (0,), 0), "kind": ("last", (0,))})

    def test_tries_within_tries_the_innermost_first(self):
        inner = a_try((NOTE,), (("ring", (NOTE,)),))
        deeds = rule(a_try((inner,), (("kind", (NOTE,)), ("any", (NOTE,)))))
        self.faults(deeds, (0, 0, 0, 0, 0), {
            "ring": ("catch", (0, 0, 0), 0), "kind": ("catch", (0,), 0), "great": ("catch", (0,), 1),
        })
        self.faults(deeds, (0, 0, 0, 1, 0), {"ring": ("catch", (0,), 1)})
        self.faults(deeds, (0, 0, 0), {"ring": ("catch", (0,), 1)})

    def test_inner_lasts_ahead_of_outer_catches(self):
        deeds = rule(a_try((a_try((NOTE,), (), (NOTE,)),), (("ring", (NOTE,)),)))
        self.faults(deeds, (0, 0, 0, 0, 0), {"ring": ("last", (0, 0, 0))})
        # These lasts being through, it goes on from the place of their try.
        self.faults(deeds, (0, 0, 0), {"ring": ("catch", (0,), 0), "kind": OUT})

    def test_a_try_in_a_catch_and_in_lasts(self):
        inner = a_try((NOTE,), (("ring", (NOTE,)),))
        deeds = rule(a_try((NOTE,), (("any", (inner,)),), (inner,)))
        self.faults(deeds, (0, 1, 0, 0, 0), {"ring": ("catch", (0, 1, 0), 0), "kind": ("last", (0,))})
        self.faults(deeds, (0, 2, 0, 0, 0), {"ring": ("catch", (0, 2, 0), 0), "kind": OUT})

    def test_over_ifs_and_whiles(self):
        deeds = rule(a_try((a_while(("if", NONE, (NOTE,), (NOTE,))),), (("ring", (NOTE,)),), (a_while(NOTE),)))
        for place in ((0, 0, 0), (0, 0, 0, 0, 0), (0, 0, 0, 0, 0, 0, 0), (0, 0, 0, 0, 0, 1, 0)):
            self.faults(deeds, place, {"ring": ("catch", (0,), 0), "kind": ("last", (0,))})
        self.faults(deeds, (0, 2, 0, 0, 0), {"ring": OUT})

    def test_the_try_itself_is_around_its_deeds_alone(self):
        deeds = rule(a_try((NOTE,), (("any", (NOTE,)),), (NOTE,)), NOTE)
        self.faults(deeds, (0,), {"ring": OUT})
        self.faults(deeds, (1,), {"ring": OUT})

    def test_the_number_of_a_catch_with_fewer_and_more_of_them(self):
        for many in range(1, 4):
            catches = tuple(("abc"[at], (NOTE,)) for at in range(many))
            deeds = rule(a_try((NOTE,), catches, (NOTE,)))
            for at in range(3):
                goes = ("catch", (0,), at) if at < many else ("last", (0,))
                self.faults(deeds, (0, 0, 0), {"abc"[at]: goes})
            for number in range(1, many + 1):
                self.faults(deeds, (0, number, 0), {"a": ("last", (0,)), "c": ("last", (0,))})
            self.faults(deeds, (0, many + 1, 0), {"a": OUT, "c": OUT})


class EndTest(GoesTest):
    def test_without_lasts_it_goes_out(self):
        deeds = rule(NOTE, a_while(NOTE), a_try((a_try((NOTE,), (("any", (NOTE,)),)),), (("any", (NOTE,)),)))
        for place in places(deeds):
            self.assertEqual(end_goes(deeds, place), OUT)

    def test_to_the_first_lasts_out_of_block_and_catches(self):
        deeds = rule(a_try((NOTE,), (("any", (NOTE,)), ("ring", (NOTE,)), ("kind", (NOTE,))), (NOTE,)))
        for number in range(4):
            self.assertEqual(end_goes(deeds, (0, number, 0)), ("last", (0,)))
        self.assertEqual(end_goes(deeds, (0, 4, 0)), OUT)
        self.assertEqual(end_goes(deeds, (0,)), OUT)

    def test_no_catch_takes_it(self):
        deeds = rule(a_try((a_try((NOTE,), (("any", (NOTE,)), ("end", (NOTE,)))),), (("any", (NOTE,)),), (NOTE,)))
        self.assertEqual(end_goes(deeds, (0, 0, 0, 0, 0)), ("last", (0,)))

    def test_inner_lasts_then_outer_ones(self):
        deeds = rule(a_try((a_while(a_try((NOTE,), (), (NOTE,))),), (), (NOTE,)))
        inner = (0, 0, 0, 0, 0)
        self.assertEqual(end_goes(deeds, inner + (0, 0)), ("last", inner))
        self.assertEqual(end_goes(deeds, inner + (1, 0)), ("last", (0,)))
        self.assertEqual(end_goes(deeds, inner), ("last", (0,)))

    def test_no_while_holds_it(self):
        deeds = rule(a_try((a_while(a_while(NOTE)),), (), (NOTE,)))
        self.assertEqual(end_goes(deeds, (0, 0, 0, 0, 0, 0, 0)), ("last", (0,)))


class LeaveTest(GoesTest):
    def test_behind_the_innermost_while(self):
        deeds = rule(NOTE, a_while(NOTE, a_while(NOTE), ("if", NONE, (NOTE,), (NOTE,))))
        for place in ((1, 0, 0), (1, 0, 1), (1, 0, 2), (1, 0, 2, 0, 0), (1, 0, 2, 1, 0)):
            self.assertEqual(leave_goes(deeds, place), ("behind", (1,)))
        self.assertEqual(leave_goes(deeds, (1, 0, 1, 0, 0)), ("behind", (1, 0, 1)))

    def test_lasts_within_the_while_come_first(self):
        deeds = rule(a_while(a_try((NOTE,), (("any", (NOTE,)), ("leave", (NOTE,))), (NOTE,))))
        for number in range(3):
            self.assertEqual(leave_goes(deeds, (0, 0, 0, number, 0)), ("last", (0, 0, 0)))
        self.assertEqual(leave_goes(deeds, (0, 0, 0, 3, 0)), ("behind", (0,)))
        self.assertEqual(leave_goes(deeds, (0, 0, 0)), ("behind", (0,)))

    def test_only_as_far_as_the_while(self):
        deeds = rule(a_try((a_while(NOTE),), (("any", (a_while(NOTE),)),), (a_while(NOTE),)))
        for number in range(3):
            self.assertEqual(leave_goes(deeds, (0, number, 0, 0, 0)), ("behind", (0, number, 0)))

    def test_no_catch_takes_it(self):
        deeds = rule(a_while(a_try((NOTE,), (("any", (NOTE,)),))))
        self.assertEqual(leave_goes(deeds, (0, 0, 0, 0, 0)), ("behind", (0,)))
        self.assertEqual(leave_goes(deeds, (0, 0, 0, 1, 0)), ("behind", (0,)))

    def test_tries_within_tries_within_a_while(self):
        deeds = rule(a_while(a_try((a_try((NOTE,), (), (NOTE,)),), (), (NOTE,))))
        outer, inner = (0, 0, 0), (0, 0, 0, 0, 0)
        self.assertEqual(leave_goes(deeds, inner + (0, 0)), ("last", inner))
        self.assertEqual(leave_goes(deeds, inner + (1, 0)), ("last", outer))
        self.assertEqual(leave_goes(deeds, inner), ("last", outer))
        self.assertEqual(leave_goes(deeds, outer), ("behind", (0,)))


class BehindTest(GoesTest):
    def follows(self, rule, told):
        for place, what in told.items():
            self.assertEqual(behind(rule, place), what, place)

    def test_the_next_deed_of_the_block(self):
        deeds = rule(*(NOTE,) * 12)
        self.follows(deeds, {(at,): ("deed", (at + 1,)) for at in range(11)})
        self.follows(deeds, {(11,): ("end",)})
        self.follows(TINY_RULE, {(0,): ("end",)})

    def test_the_next_deed_in_each_sort_of_block(self):
        two = (NOTE, NOTE)
        deeds = rule(("if", NONE, two, two), a_while(*two), a_try(two, (("any", two), ("any", two)), two))
        for ahead in ((0, 0), (0, 1), (1, 0), (2, 0), (2, 1), (2, 2), (2, 3)):
            self.follows(deeds, {ahead + (0,): ("deed", ahead + (1,))})

    def test_behind_an_ifs_blocks_what_follows_the_if(self):
        choice = ("if", NONE, (NOTE,), (NOTE,))
        self.follows(rule(choice, NOTE), {(0, 0, 0): ("deed", (1,)), (0, 1, 0): ("deed", (1,)), (0,): ("deed", (1,))})
        self.follows(rule(NOTE, choice), {(1, 0, 0): ("end",), (1, 1, 0): ("end",)})
        self.follows(rule(a_while(choice)), {(0, 0, 0, 0, 0): ("test", (0,)), (0, 0, 0, 1, 0): ("test", (0,))})
        nested = rule(("if", NONE, (choice, NOTE), (choice,)), NOTE)
        self.follows(nested, {(0, 0, 0, 1, 0): ("deed", (0, 0, 1)), (0, 1, 0, 0, 0): ("deed", (1,))})

    def test_behind_a_whiles_block_its_expression(self):
        deeds = rule(a_while(NOTE, a_while(NOTE)), NOTE)
        self.follows(deeds, {(0, 0, 1, 0, 0): ("test", (0, 0, 1)), (0, 0, 1): ("test", (0,)), (0,): ("deed", (1,))})

    def test_behind_a_trys_block_and_catches_its_lasts(self):
        for many in range(4):
            deeds = rule(a_try((NOTE,), (("any", (NOTE,)),) * many, (NOTE,)), NOTE)
            self.follows(deeds, {(0, number, 0): ("last", (0,)) for number in range(many + 1)})
            self.follows(deeds, {(0, many + 1, 0): ("resume", (0,)), (0,): ("deed", (1,))})

    def test_behind_a_try_without_lasts_what_follows_it(self):
        for many in range(1, 4):
            inner = a_try((NOTE,), (("any", (NOTE,)),) * many)
            for number in range(many + 1):
                self.follows(rule(inner, NOTE), {(0, number, 0): ("deed", (1,))})
                self.follows(rule(inner), {(0, number, 0): ("end",)})
                self.follows(rule(a_while(inner)), {(0, 0, 0, number, 0): ("test", (0,))})
                self.follows(rule(a_try((NOTE,), (), (inner,))), {(0, 1, 0, number, 0): ("resume", (0,))})
                self.follows(rule(a_try((inner,), (), (NOTE,))), {(0, 0, 0, number, 0): ("last", (0,))})

    def test_behind_lasts_within_lasts(self):
        inner = a_try((NOTE,), (), (NOTE,))
        deeds = rule(a_try((NOTE,), (), (inner,)))
        self.follows(deeds, {(0, 1, 0, 1, 0): ("resume", (0, 1, 0)), (0, 1, 0): ("resume", (0,)), (0,): ("end",)})

    def test_end_fault_and_leave_are_followed_like_others(self):
        deeds = rule(a_while(("leave",), ("end", NONE), ("fault", "ring", NONE)))
        self.follows(deeds, {(0, 0, 0): ("deed", (0, 0, 1)), (0, 0, 1): ("deed", (0, 0, 2)), (0, 0, 2): ("test", (0,))})


class AroundTest(unittest.TestCase):
    def test_tries_and_whiles_around_a_place(self):
        deeds = rule(a_while(a_try((a_try((NOTE,), (("a", (a_while(NOTE),)),), (a_try((NOTE,), (), (NOTE,)),)),), (), (
            a_try((NOTE,), (), (a_while(NOTE),)),))))
        outer, inner, third = (0, 0, 0), (0, 0, 0, 0, 0), (0, 0, 0, 0, 0, 2, 0)
        last = (0, 0, 0, 1, 0)
        for place, lasts, tries, loop in (
            ((0,), [], [], None),
            (outer, [], [], (0,)),
            (inner, [], [outer], (0,)),
            (inner + (0, 0), [], [outer, inner], (0,)),
            (inner + (1, 0), [], [outer, inner], (0,)),
            (inner + (1, 0, 0, 0), [], [outer, inner], inner + (1, 0)),
            (third, [inner], [outer], (0,)),
            (third + (0, 0), [inner], [outer, third], (0,)),
            (third + (1, 0), [inner, third], [outer], (0,)),
            (last, [outer], [], (0,)),
            (last + (0, 0), [outer], [last], (0,)),
            (last + (1, 0, 0, 0), [outer, last], [], last + (1, 0)),
        ):
            self.assertEqual(lasts_around(deeds, place), lasts, place)
            self.assertEqual(tries_around(deeds, place), tries, place)
            self.assertEqual(while_around(deeds, place), loop, place)

    def test_a_try_without_lasts_is_never_open(self):
        deeds = rule(a_try((NOTE,), (("a", (NOTE,)),)))
        for place in places(deeds):
            self.assertEqual((lasts_around(deeds, place), tries_around(deeds, place)), ([], []))


class AllOfItTest(GoesTest):
    def test_full_rule(self):
        inner = (2, 0, 0, 0, 0)
        self.faults(FULL_RULE, inner + (0, 0), {"kind": ("catch", inner, 0)})
        self.faults(FULL_RULE, inner + (0, 0, 0, 0), {"kind": ("last", inner + (0, 0))})
        self.assertEqual(leave_goes(FULL_RULE, inner + (2, 0)), ("behind", (2,)))
        self.assertEqual(behind(FULL_RULE, inner + (2, 0)), ("test", (2,)))

    def test_all_places_of_many_rules_as_found_from_outside_inward(self):
        count = 0
        for deeds in [FULL_RULE] + [one for book in books(150) for one in book]:
            told = {}
            ways_down(deeds[2], (), (lambda word: OUT, OUT, None), ("end",), told)
            self.assertEqual(list(told), places(deeds))
            for place, (fault, end, leave, follows) in told.items():
                for word in ("close", "if", "kind", "ring", "w", "other"):
                    self.assertEqual(fault_goes(deeds, place, word), fault(word))
                self.assertEqual(end_goes(deeds, place), end)
                if leave is not None:
                    self.assertEqual(leave_goes(deeds, place), leave)
                    count += 1
                self.assertEqual(behind(deeds, place), follows)
        self.assertGreater(count, 1000)

    def all_told(self, deeds):
        told = []
        for place in places(deeds):
            told += [fault_goes(deeds, place, "ring"), end_goes(deeds, place), behind(deeds, place)]
        return told + [leave_goes(FULL_RULE, (2, 0, 0))]

    def test_nothing_is_changed_and_the_same_is_told_again(self):
        kept = copy.deepcopy(FULL_RULE)
        first = self.all_told(FULL_RULE)
        self.assertEqual(self.all_told(FULL_RULE), first)
        self.assertEqual(self.all_told(kept), first)
        self.assertEqual(FULL_RULE, kept)

    def test_kinds_of_what_is_told(self):
        for told in self.all_told(FULL_RULE):
            self.assertIs(type(told), tuple)
            self.assertIs(type(told[0]), str)
            if len(told) > 1:
                self.assertIs(type(told[1]), tuple)
                self.assertTrue(all(type(number) is int for number in told[1] + told[2:]))

    def test_beyond_the_bounds_nothing_is_refused(self):
        deed = NOTE
        for _ in range(6):
            deed = a_while(a_try((deed,), (("a", (NOTE,)),) * 5, (NOTE,) * 40))
        deeds = rule(deed)
        self.assertEqual(len(places(deeds)), 2 * 6 + 1 + 6 * 45)
        self.assertEqual(fault_goes(deeds, (0, 0, 0, 0, 0), "a"), ("catch", (0, 0, 0), 0))
        self.assertEqual(leave_goes(deeds, (0, 0, 0, 6, 39)), ("behind", (0,)))
        self.assertEqual(behind(deeds, (0, 0, 0, 6, 39)), ("resume", (0, 0, 0)))


if __name__ == "__main__":
    unittest.main()
