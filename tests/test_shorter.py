"""Promise 28: codes shortened."""

import copy
import unittest

from handedon.codelook import is_code
from handedon.codes import code_of
from handedon.reader import read_book
from handedon.shorter import shortened
from tests.code_look import second_is_code
from tests.code_making import padded, varied, with_empty_guard, with_jump_at, with_pieces, with_row_twice
from tests.samples import FULL_RULE, TINY_RULE
from tests.test_codelook import NESTED, RULE, RULES, rule_of, rules

NO_NEXT = ("jump", "done", "end", "fault", "leave")
TELLS = ("test", "jump", "leave", "resume")
PLACELESS = ("jump", "done", "last")


def second_shortened(code):
    """The same, told in another way: rows and guards are gone over till nothing more is reached."""
    old, guards = code

    def lead(t):
        return lead(old[t][1]) if t != -1 and old[t][0] == "jump" else t

    rows = [row[:-1] + (lead(row[-1]),) if row[0] in TELLS else row for row in old]
    guards = [(a, b, p, tuple(lead(t) for t in catches), lead(last)) for a, b, p, catches, last in guards]
    reached = {0} | {n for n, row in enumerate(rows) if row[0] == "stand"}
    many = 0
    while len(reached) > many:
        many = len(reached)
        for n in sorted(reached):
            reached |= {n + 1} if rows[n][0] not in NO_NEXT else set()
            reached |= {rows[n][-1]} if rows[n][0] in TELLS else set()
        for guard in guards:
            if holds_some(guard, rows, reached):
                reached |= {*guard[3], guard[4]}
        reached -= {-1}
    order = sorted(reached)

    def anew(t):
        return -1 if t == -1 else order.index(t)

    def ahead(t):
        return len([n for n in order if n < t])

    return (
        tuple(rows[n][:-1] + (anew(rows[n][-1]),) if rows[n][0] in TELLS else rows[n] for n in order),
        tuple((ahead(a), ahead(b), p, tuple(map(anew, catches)), anew(last))
              for a, b, p, catches, last in guards if holds_some((a, b), rows, reached)),
    )


def holds_some(guard, rows, reached):
    return any(n in reached and rows[n][0] not in PLACELESS for n in range(guard[0], guard[1]))


class ShorterTest(unittest.TestCase):
    def whole(self, rule, code):
        """All that is promised of the code shortened; tells it."""
        before = copy.deepcopy(code)
        told = shortened(code)
        self.assertEqual(code, before)
        self.assertEqual(told, second_shortened(code))
        self.assertIs(is_code(rule, told), True, (code, told))
        self.assertTrue(second_is_code(rule, told))
        self.assertLessEqual(len(told[0]), len(code[0]))
        numbers = [row[-1] for row in told[0] if row[0] in TELLS]
        numbers += [t for guard in told[1] for t in guard[3] + guard[4:]]
        self.assertNotIn("jump", [told[0][t][0] for t in numbers if t != -1])
        self.assertEqual(shortened(told), told)
        self.assertEqual(shortened(code), told)
        return told

    def test_codes_of_the_tests_books(self):
        for rule in rules(60):
            self.whole(rule, code_of(rule))

    def test_varied_codes(self):
        for at, rule in enumerate(rules(40)):
            for seed in range(3):
                self.whole(rule, varied(code_of(rule), 7 * at + seed))

    def test_padded_codes(self):
        for rule in (RULE, NESTED, FULL_RULE):
            code = code_of(rule)
            self.assertEqual(self.whole(rule, padded(code, 300, 100)), self.whole(rule, code))
        self.assertEqual(self.whole(TINY_RULE, padded(code_of(TINY_RULE), 300, 0)), ((("end", (0,)),), ()))

    def test_rows_that_nothing_reaches(self):
        rule = rule_of(" end 1\n note 1\n note 2\n x = give 3\n note 4")
        self.assertEqual(self.whole(rule, code_of(rule)),
                         ((("end", (0,)), ("stand", (3,)), ("deed", (4,)), ("done",)), ()))
        self.assertEqual(self.whole(TINY_RULE, code_of(TINY_RULE)), ((("end", (0,)),), ()))

    def test_jumps_to_jumps(self):
        rule = rule_of(" note 1\n if 1\n  note 2\n note 3")
        rows = (("jump", 2), ("jump", 3), ("jump", 1), ("deed", (0,)), ("jump", 5), ("test", (1,), 9), ("jump", 11),
                ("deed", (1, 0, 0)), ("jump", 9), ("jump", 10), ("jump", 12), ("jump", 7), ("deed", (2,)), ("done",))
        self.assertIs(is_code(rule, (rows, ())), True)
        self.assertEqual(self.whole(rule, (rows, ())), ((
            ("jump", 1), ("deed", (0,)), ("jump", 3), ("test", (1,), 7), ("jump", 5), ("deed", (1, 0, 0)), ("jump", 7),
            ("deed", (2,)), ("done",)), ()))

    def test_row_0_stays_also_where_it_is_a_jump(self):
        code = with_jump_at(code_of(RULE), 0, True)
        rows, guards = self.whole(RULE, code)
        self.assertEqual(rows[:2], (("jump", 1), code[0][1][:2] + (rows[1][2],)))

    def test_jumps_laid_in_and_rows_twice(self):
        for rule in RULES:
            code = code_of(rule)
            for at in range(len(code[0])):
                for through in (True, False):
                    self.whole(rule, with_jump_at(code, at, through))
                self.whole(rule, with_row_twice(code, at))

    def test_300_jumps_behind_one_another(self):
        rows = tuple(("jump", at + 1) for at in range(298)) + (("end", (0,)), ("done",))
        self.assertEqual(self.whole(TINY_RULE, (rows, ())), ((("jump", 1), ("end", (0,))), ()))

    def test_guards_that_then_hold_nothing(self):
        rule = rule_of(" end 1\n try\n  note 1\n last\n  note 2")
        code = code_of(rule)
        self.assertEqual(len(code[1]), 1)
        self.assertEqual(self.whole(rule, code), ((("end", (0,)),), ()))

    def test_guards_over_jumps_dones_and_lasts_alone(self):
        for rule in (RULE, NESTED):
            code = code_of(rule)
            short = self.whole(rule, code)
            for at, row in enumerate(code[0]):
                if row[0] in PLACELESS:
                    for place in {guard[2] for guard in code[1]}:
                        for n in range(len(code[1]) + 1):
                            guard = (at, at + 1, place, (), len(code[0]) - 1)
                            self.assertEqual(self.whole(rule, with_empty_guard(code, n, guard)), short)

    def test_what_such_a_guard_tells_isnt_reached_by_it(self):
        rule = rule_of(" try\n  note 1\n last\n  note 2")
        rows, guards = code_of(rule)
        self.assertEqual(rows[2], ("last", (0,)))
        more = rows + (("jump", 0), ("last", (0,)), ("jump", 3))
        many = len(rows)
        code = (more, guards + ((2, 3, (0,), (), many + 1), (many - 1, many, (0,), (), many + 1)))
        self.assertIs(is_code(rule, code), True)
        self.assertEqual(self.whole(rule, code), self.whole(rule, (rows, guards)))
        # As a guard over the deed it would reach the row; the one ahead of it takes all.
        code = (more, guards + ((1, 2, (0,), (), many + 1),))
        short = self.whole(rule, code)
        self.assertEqual((len(short[0]), short[1][1]), (many + 2, (1, 2, (0,), (), many)))

    def test_guards_whose_bounds_lie_among_rows_that_are_left_out(self):
        rule = rule_of(" try\n  note 1\n  end 2\n  note 3\n  note 4\n catch any x\n  end 5\n note 6")
        rows, guards = code_of(rule)
        self.assertEqual(rows[1:5], tuple((word, (0, 0, n)) for n, word in enumerate(("deed", "end", "deed", "deed"))))
        first, beyond, place, catches, last = guards[0]
        expected = ((("open", (0,)), ("deed", (0, 0, 0)), ("end", (0, 0, 1)), ("end", (0, 1, 0))), ((1, 3, (0,), (3,), -1),))
        self.assertEqual(self.whole(rule, (rows, guards)), expected)
        for pieces in (((first, 3), (3, beyond)), ((first, 4), (4, beyond)), ((4, beyond), (first, 4))):
            code = (rows, tuple(bounds + guards[0][2:] for bounds in pieces))
            self.assertIs(is_code(rule, code), True)
            self.assertEqual(self.whole(rule, code), expected)
        code = (rows, ((1, 2) + guards[0][2:], (2, beyond) + guards[0][2:]))
        self.assertEqual(self.whole(rule, code)[1], ((1, 2, (0,), (3,), -1), (2, 3, (0,), (3,), -1)))

    def test_guards_in_pieces(self):
        for rule in RULES:
            code = code_of(rule)
            for at, guard in enumerate(code[1]):
                for middle in range(guard[0], guard[1] + 1):
                    self.whole(rule, with_pieces(code, at, middle))

    def test_guards_order_stays(self):
        rows, guards = code_of(NESTED)
        short = self.whole(NESTED, (rows, guards))
        self.assertEqual([guard[2] for guard in short[1]], [guard[2] for guard in guards])

    def test_minus_one_stays(self):
        rule = rule_of(" try\n  note 1\n catch w x\n  note 2\n try\n  note 3\n last\n  note 4")
        rows, guards = self.whole(rule, code_of(rule))
        self.assertIn(("resume", (1,), -1), rows)
        self.assertIn(-1, [guard[4] for guard in guards])

    def test_what_is_told_is_plain(self):
        rows, guards = shortened(code_of(RULE))
        for thing in (shortened(code_of(RULE)), rows, guards) + rows + guards + tuple(guard[3] for guard in guards):
            self.assertIs(type(thing), tuple)

    def test_all_stays_where_nothing_is_to_be_left_out(self):
        book = read_book("rule main()\n x = give 1\n try\n  note 2\n last\n  note 3")
        code = code_of(book[0])
        self.assertEqual(self.whole(book[0], code), code)


if __name__ == "__main__":
    unittest.main()
