"""Promises 25 and 27: which things are codes of a rule."""

import copy
import unittest

from handedon.codelook import is_code
from handedon.codes import code_of
from handedon.places import places, stands_of
from handedon.reader import read_book
from tests.code_look import second_is_code
from tests.code_making import padded, varied, with_empty_guard, with_jump_at, with_pieces, with_row_twice
from tests.lively import Lively
from tests.makers import books
from tests.samples import BOOK, FULL_RULE, ODD, TINY_RULE, changed_at, part_at, paths_in


def rule_of(text):
    return read_book(f"rule main()\n{text}")[0]


# Each word of a row, a while around, a try of two catches with lasts.
RULE = rule_of(""" while x
  try
   x = give 1
   leave
  catch w y
   note 1
  catch any y
   x = on y
  last
   if x
    fault v 1
   else
    end 2""")
# Tries of each form within one another, lasts within lasts, no while around some.
NESTED = rule_of(""" try
  try
   x = give 1
  catch w y
   note 2
  catch v y
   note 3
 last
  while x
   try
    try
     x = give 4
    last
     leave
   catch any y
    x = give 5
   last
    x = on x
 if x
  note 6
 note 7""")
RULES = (RULE, NESTED, FULL_RULE, TINY_RULE)
OTHERS = (
    None, True, False, -1, -2, 0, 1, 2, 5, 99, 300, 10 ** 39, "", "deed", "done", (), (0,), (True,), (False,), [], [0], {},
    (0, 0, 0), (0, 0, 0, 0, 0), (9,), ("done",), ("jump", 0), ((),), ("0",), (None,), ([0],), ((0,),), (0, 0), (-1,),
)


def rules(many):
    """The rules of so many made books of each sort."""
    made = books(many) + [Lively(seed).book() for seed in range(many)] + [BOOK]
    return [rule for book in made for rule in book] + list(RULES)


def exchanged(parts, at, *others):
    """The tuple with other parts, however many, in place of one."""
    return parts[:at] + others + parts[at + 1:]


class Case(unittest.TestCase):
    def lets(self, rule, thing):
        self.assertIs(is_code(rule, thing), True, thing)
        self.assertTrue(second_is_code(rule, thing), thing)

    def shuts(self, rule, thing):
        self.assertIs(is_code(rule, thing), False, thing)
        self.assertFalse(second_is_code(rule, thing), thing)

    def alike(self, rule, thing):
        """Both looks tell the same; tells it."""
        told = is_code(rule, thing)
        self.assertIs(told, second_is_code(rule, thing), thing)
        return told


class LetByTest(Case):
    def test_what_code_of_tells(self):
        for rule in rules(100):
            self.lets(rule, code_of(rule))

    def test_rows_in_any_order_and_twice_with_jumps_between_and_guards_in_pieces(self):
        for at, rule in enumerate(rules(40)):
            for seed in range(3):
                self.lets(rule, varied(code_of(rule), 100 * at + seed))

    def test_a_jump_laid_in_at_any_place(self):
        for rule in RULES:
            code = code_of(rule)
            for at in range(len(code[0])):
                for through in (True, False):
                    self.lets(rule, with_jump_at(code, at, through))
            self.lets(rule, (code[0] + (("jump", 0),), code[1]))

    def test_jumps_to_jumps(self):
        code = code_of(RULE)
        for at in (0, 3, 7):
            for _ in range(20):
                code = with_jump_at(code, at, True)
        self.lets(RULE, code)

    def test_each_row_twice(self):
        for rule in RULES:
            code = code_of(rule)
            for at in range(len(code[0])):
                self.lets(rule, with_row_twice(code, at))

    def test_a_guard_in_pieces(self):
        for rule in RULES:
            code = code_of(rule)
            for at, guard in enumerate(code[1]):
                for middle in range(guard[0], guard[1] + 1):
                    self.lets(rule, with_pieces(code, at, middle))

    def test_a_guard_that_holds_nothing(self):
        code = code_of(RULE)
        many = len(code[0])
        for at in range(len(code[1]) + 1):
            for first, beyond in ((0, 0), (many, many), (many, 0), (5, 4), (3, 3)):
                for catches in ((), (0, 0), (many - 1, 1)):
                    for last in (-1, 0, many - 1):
                        self.lets(RULE, with_empty_guard(code, at, (first, beyond, (0, 0, 0), catches, last)))

    def test_a_guard_that_holds_only_rows_from_which_nothing_goes(self):
        code = code_of(RULE)
        for at, row in enumerate(code[0]):
            told = self.alike(RULE, with_empty_guard(code, 0, (at, at + 1, (0, 0, 0), (), 0)))
            self.assertIs(told, row[0] in ("jump", "done", "last"), row)

    def test_the_same_guard_again(self):
        rows, guards = code_of(NESTED)
        self.lets(NESTED, (rows, guards + guards))
        self.lets(NESTED, (rows, guards + guards[::-1]))

    def test_300_rows_and_100_guards_and_one_more(self):
        for rule in (RULE, NESTED, FULL_RULE):
            code = code_of(rule)
            self.lets(rule, padded(code, 300, 100))
            self.shuts(rule, padded(code, 301, 100))
            self.shuts(rule, padded(code, 300, 101))
            self.shuts(rule, padded(code, 301, 101))
        self.lets(TINY_RULE, padded(code_of(TINY_RULE), 300, 0))
        self.shuts(TINY_RULE, padded(code_of(TINY_RULE), 301, 0))

    def test_300_jumps_behind_one_another(self):
        rows = (("jump", 1),) + tuple(("jump", at + 1) for at in range(1, 298)) + (("end", (0,)), ("done",))
        self.lets(TINY_RULE, (rows, ()))
        self.shuts(TINY_RULE, (exchanged(rows, 297, ("jump", 0)), ()))
        self.shuts(TINY_RULE, (exchanged(rows, 297, ("jump", 299)), ()))

    def test_a_code_without_done(self):
        self.lets(TINY_RULE, ((("end", (0,)),), ()))
        self.lets(rule_of(" while 1\n  note 1\n end 1"),
                  ((("test", (0,), 3), ("deed", (0, 0, 0)), ("jump", 0), ("end", (1,))), ()))

    def test_several_dones(self):
        rule = rule_of(" if 1\n  x = give 1\n else\n  x = give 2")
        rows = (("test", (0,), 3), ("stand", (0, 0, 0)), ("done",), ("stand", (0, 1, 0)), ("done",))
        self.lets(rule, (rows, ()))
        self.shuts(rule, (rows[:-1], ()))

    def test_what_nothing_reaches_may_be_left_out_but_stands(self):
        rule = rule_of(" end 1\n note 1\n x = give 2\n note 3")
        whole = (("end", (0,)), ("deed", (1,)), ("stand", (2,)), ("deed", (3,)), ("done",))
        self.lets(rule, (whole, ()))
        self.lets(rule, (whole[:1] + whole[2:], ()))
        self.shuts(rule, (whole[:1], ()))
        self.shuts(rule, (whole[:1] + whole[3:], ()))


class FormTest(Case):
    """Promise 25: what has not the form of a code of the rule."""

    def test_whatever_thing(self):
        rows, guards = code_of(RULE)
        for thing in ODD:
            self.shuts(RULE, thing)
            self.shuts(RULE, (thing, guards))
            self.shuts(RULE, (rows, guards, thing))
            self.shuts(RULE, (thing, thing))
            self.shuts(RULE, (rows + (thing,), guards))
            self.shuts(RULE, (rows, guards + (thing,)))
            if thing != ():
                self.shuts(TINY_RULE, (code_of(TINY_RULE)[0], thing))

    def test_no_rows(self):
        for rule in RULES:
            self.shuts(rule, ((), ()))
            self.shuts(rule, ((), code_of(rule)[1]))
            self.shuts(rule, ())
            self.shuts(rule, code_of(rule)[:1])

    def test_something_else_at_each_place(self):
        """A list in the place of a tuple, a truth in that of a number, and whatever other thing."""
        let = shut = 0
        for rule in (RULE, TINY_RULE):
            code = code_of(rule)
            for path in paths_in(code):
                for other in OTHERS:
                    if self.alike(rule, changed_at(code, path, other)):
                        let += 1
                    else:
                        shut += 1
                part = part_at(code, path)
                if isinstance(part, tuple):
                    self.shuts(rule, changed_at(code, path, list(part)))
                    self.shuts(rule, changed_at(code, path, part + (0,)))
                    self.shuts(rule, changed_at(code, path, part + ((),)))
                elif isinstance(part, int):
                    self.shuts(rule, changed_at(code, path, str(part)))
                else:
                    self.shuts(rule, changed_at(code, path, part + " "))
        self.assertGreater(let, 20)
        self.assertGreater(shut, 2000)

    def test_truths_in_the_place_of_numbers(self):
        """To Python they are the same: so all else is as it is to be."""
        code = code_of(RULE)
        found = 0
        for path in paths_in(code):
            part = part_at(code, path)
            if isinstance(part, int) and part in (0, 1):
                self.assertEqual(changed_at(code, path, bool(part)), code)
                self.shuts(RULE, changed_at(code, path, bool(part)))
                found += 1
        self.assertGreater(found, 20)

    def test_numbers_of_rows_beyond_the_bounds(self):
        code = code_of(RULE)
        many = len(code[0])
        for at, row in enumerate(code[0]):
            if row[0] in ("test", "leave", "resume", "jump"):
                for number in (-1, -2, many, many + 1, 10 ** 39, -(10 ** 39)):
                    self.shuts(RULE, (exchanged(code[0], at, row[:-1] + (number,)), code[1]))
        for at, (first, beyond, place, catches, last) in enumerate(code[1]):
            for number in (-1, -2, many, many + 1):
                for n in range(len(catches)):
                    guard = (first, beyond, place, exchanged(catches, n, number), last)
                    self.shuts(RULE, (code[0], exchanged(code[1], at, guard)))
            for number in (-2, many, many + 1):
                self.shuts(RULE, (code[0], exchanged(code[1], at, (first, beyond, place, catches, number))))

    def test_bounds_of_guards(self):
        code = code_of(RULE)
        many = len(code[0])
        for first, beyond, there in ((many, many, True), (many + 1, many, False), (many, many + 1, False), (0, -1, False),
                                     (-1, 0, False), (many + 1, many + 1, False), (many, 0, True), (10 ** 39, 0, False)):
            thing = with_empty_guard(code, 0, (first, beyond, (0, 0, 0), (), -1))
            self.assertIs(self.alike(RULE, thing), there, (first, beyond))

    def test_minus_one_where_it_may_stand(self):
        rule = rule_of(" try\n  note 1\n last\n  note 2")
        rows = (("open", (0,)), ("deed", (0, 0, 0)), ("last", (0,)), ("deed", (0, 1, 0)), ("resume", (0,), -1), ("done",))
        guards = ((1, 2, (0,), (), 2),)
        self.lets(rule, (rows, guards))
        for number in (0, 2, 5):
            self.shuts(rule, (exchanged(rows, 4, ("resume", (0,), number)), guards))
        self.lets(rule, (rows, guards + ((0, 6, (0,), (), -1),)))
        self.shuts(rule, (rows, ((1, 2, (0,), (), -1),)))
        around = rule_of(" while 1\n  try\n   note 1\n  last\n   note 2")
        rows, guards = code_of(around)
        at = [row[0] for row in rows].index("resume")
        self.shuts(around, (exchanged(rows, at, rows[at][:2] + (-1,)), guards))

    def test_places_that_are_none_of_the_rules(self):
        code = code_of(RULE)
        for at, row in enumerate(code[0]):
            if row[0] not in ("jump", "done"):
                for place in ((), (1,), (0, 0), (0, 1, 0), row[1] + (0, 0), row[1] + (9, 0), list(row[1]), None, "", "0", 0,
                              tuple(map(bool, row[1])), tuple(map(str, row[1])), (row[1],), row[1][:-1] + (-1,)):
                    self.shuts(RULE, (exchanged(code[0], at, (row[0], place) + row[2:]), code[1]))

    def test_words_of_other_deeds(self):
        code = code_of(RULE)
        for at, row in enumerate(code[0]):
            for word in ("deed", "stand", "test", "open", "end", "fault", "leave", "last", "resume", "jump", "done", "give"):
                if word != row[0]:
                    self.shuts(RULE, (exchanged(code[0], at, (word,) + row[1:]), code[1]))

    def test_lasts_of_a_try_that_has_none(self):
        rule = rule_of(" try\n  note 1\n catch w x\n  note 2")
        rows, guards = code_of(rule)
        self.lets(rule, (rows, guards))
        for row in (("last", (0,)), ("resume", (0,), -1)):
            self.shuts(rule, (rows + (row, ("jump", 0)), guards))
            self.shuts(rule, (rows + (row,), guards))
        self.shuts(rule, (rows, guards + ((0, 0, (0,), (), True),)))

    def test_guards_of_what_is_no_try(self):
        code = code_of(RULE)
        for place in places(RULE) + [(), (7,), None, [0, 0, 0], (False, 0, 0), (0, False, 0)]:
            told = self.alike(RULE, with_empty_guard(code, 1, (0, 0, place, (), -1)))
            self.assertIs(told, place == (0, 0, 0) and not any(part is False for part in place), place)

    def test_catches_too_few_or_too_many(self):
        code = code_of(RULE)
        for catches, there in (((), True), ((0,), False), ((0, 0), True), ((0, 0, 0), False), ([], False), ([0, 0], False),
                               (None, False), (0, False), ((0, -1), False), ((0, True), False), ((0, "0"), False)):
            told = self.alike(RULE, with_empty_guard(code, 1, (0, 0, (0, 0, 0), catches, -1)))
            self.assertIs(told, there, catches)

    def test_another_rules_code(self):
        for rule in RULES:
            for other in RULES:
                self.assertIs(self.alike(rule, code_of(other)), rule == other)


class ClauseTest(Case):
    """Promise 27: of what has the form of a code, each clause broken alone."""

    def test_jumps_that_lead_round_for_ever(self):
        for rule in RULES:
            rows, guards = code_of(rule)
            many = len(rows)
            self.lets(rule, (rows + (("jump", many - 1),), guards))
            self.shuts(rule, (rows + (("jump", many),), guards))
            self.shuts(rule, (rows + (("jump", many + 1), ("jump", many)), guards))
            self.shuts(rule, (rows + (("jump", many + 1), ("jump", many + 2), ("jump", many + 1)), guards))
        self.shuts(TINY_RULE, ((("jump", 0),), ()))

    def test_no_next_row(self):
        for rule in RULES:
            rows, guards = code_of(rule)
            for row in rows:
                if row[0] not in ("jump", "done", "end", "fault", "leave"):
                    self.shuts(rule, (rows + (row,), guards))
            self.lets(rule, (rows + (("done",),), guards))
        self.lets(TINY_RULE, ((("end", (0,)), ("end", (0,))), ()))

    def test_row_0_leads_elsewhere(self):
        for rule in RULES:
            rows, guards = code_of(rule)
            moved = with_jump_at((rows, guards), 0, False)
            self.lets(rule, moved)
            for number in range(2, len(moved[0])):
                told = self.alike(rule, (exchanged(moved[0], 0, ("jump", number)), moved[1]))
                self.assertIs(told, moved[0][number] == ("jump", 1), number)
        lasting = rule_of(" try\n  note 1\n last\n  note 2")
        rows, guards = with_jump_at(code_of(lasting), 0, False)
        self.shuts(lasting, (exchanged(rows, 0, ("jump", [row[0] for row in rows].index("last"))), guards))
        self.shuts(lasting, (exchanged(rows, 0, ("jump", [row[0] for row in rows].index("resume"))), guards))

    def test_a_stand_without_a_row(self):
        for deeds, stand in ((" end 1\n x = give 1", (1,)), (" end 1\n x = on x", (1,)), (" end 1\n while 1\n  x = give 2", (1, 0, 0))):
            rule = rule_of(deeds)
            self.assertIn(stand, stands_of(rule))
            rows, guards = code_of(rule)
            self.lets(rule, (rows, guards))
            self.shuts(rule, (rows[:1], guards))
            self.shuts(rule, ((("end", (0,)), ("done",)), ()))

    def test_each_number_told_otherwise(self):
        for rule in RULES:
            rows, guards = code_of(rule)
            for at, row in enumerate(rows):
                if row[0] in ("test", "leave", "resume", "jump"):
                    let = [t for t in range(-1, len(rows))
                           if self.alike(rule, (exchanged(rows, at, row[:-1] + (t,)), guards))]
                    self.assertIn(row[-1], let)
                    # A jump that nothing reaches may lead to whatever it likes, but not round for ever.
                    if row[0] != "jump" or rows[at - 1][0] not in ("end", "fault", "leave"):
                        self.assertLess(len(let), 6, (row, let))

    def test_each_row_behind_another(self):
        """What follows a row stands elsewhere: so the next row is another one."""
        for rule in RULES:
            rows, guards = code_of(rule)
            for at, row in enumerate(rows):
                if row[0] not in ("jump", "done", "end", "fault", "leave"):
                    code = with_jump_at((rows, guards), at + 1, False)
                    let = [t for t in range(len(code[0]))
                           if self.alike(rule, (exchanged(code[0], at + 1, ("jump", t)), code[1]))]
                    self.assertIn(at + 2, let)
                    self.assertLess(len(let), 6, (row, let))

    def test_rows_exchanged_with_one_another(self):
        for rule in (RULE, NESTED):
            rows, guards = code_of(rule)
            for first in range(len(rows)):
                for second in range(first):
                    other = list(rows)
                    other[first], other[second] = other[second], other[first]
                    if self.alike(rule, (tuple(other), guards)):
                        self.assertEqual({rows[first][0], rows[second][0]}, {"jump"})

    def test_rows_left_out(self):
        for rule in (RULE, NESTED, FULL_RULE):
            rows, guards = code_of(rule)
            for at in range(len(rows)):
                self.alike(rule, (rows[:at] + rows[at + 1:], guards))
                self.alike(rule, (exchanged(rows, at, ("done",)), guards))

    def test_guards_left_out(self):
        for rule in (RULE, NESTED, FULL_RULE):
            rows, guards = code_of(rule)
            for at in range(len(guards)):
                self.shuts(rule, (rows, guards[:at] + guards[at + 1:]))

    def test_guards_exchanged_with_one_another(self):
        for rule in (NESTED, FULL_RULE):
            rows, guards = code_of(rule)
            told = []
            for first in range(len(guards)):
                for second in range(first):
                    other = list(guards)
                    other[first], other[second] = other[second], other[first]
                    told.append(self.alike(rule, (rows, tuple(other))))
            self.assertEqual(set(told), {True, False})
        rule = rule_of(" try\n  try\n   note 1\n  last\n   note 2\n last\n  note 3")
        rows, guards = code_of(rule)
        self.lets(rule, (rows, guards))
        self.shuts(rule, (rows, guards[::-1]))

    def test_other_bounds(self):
        for rule in (RULE, NESTED):
            rows, guards = code_of(rule)
            let = shut = 0
            for at, guard in enumerate(guards):
                for bound in range(len(rows) + 1):
                    for other in ((bound,) + guard[1:], (guard[0], bound) + guard[2:]):
                        if self.alike(rule, (rows, exchanged(guards, at, other))):
                            let += 1
                        else:
                            shut += 1
            self.assertGreater(let, 2 * len(guards))
            self.assertGreater(shut, let)

    def test_other_catches_and_lasts(self):
        for rule in (RULE, NESTED):
            rows, guards = code_of(rule)
            for at, (first, beyond, place, catches, last) in enumerate(guards):
                for number in range(-1, len(rows)):
                    told = self.alike(rule, (rows, exchanged(guards, at, (first, beyond, place, catches, number))))
                    if number == last or last != -1 and number != -1:
                        led = rows[number] if rows[number][0] != "jump" else rows[rows[number][1]]
                        self.assertIs(told, number == last or led == ("last", place), (at, number))
                    for n in range(len(catches)):
                        other = (first, beyond, place, exchanged(catches, n, number), last)
                        told = self.alike(rule, (rows, exchanged(guards, at, other)))
                        self.assertIs(told, number != -1 and rows[number] == rows[catches[n]], (at, n, number))
                if catches:
                    self.shuts(rule, (rows, exchanged(guards, at, (first, beyond, place, (), last))))

    def test_other_tries(self):
        rows, guards = code_of(NESTED)
        tries = sorted({guard[2] for guard in guards})
        for at, guard in enumerate(guards):
            for place in tries:
                told = self.alike(NESTED, (rows, exchanged(guards, at, guard[:2] + (place,) + guard[3:])))
                self.assertIs(told, place == guard[2])

    def test_each_word_that_a_catch_takes(self):
        """Where only a fault of one word goes elsewhere, it is seen."""
        rule = rule_of(" try\n  try\n   note 1\n  catch w x\n   note 2\n catch v x\n  note 3\n catch any x\n  note 4")
        rows, guards = code_of(rule)
        inner, outer = guards
        self.lets(rule, (rows, (inner, outer)))
        self.shuts(rule, (rows, (outer, inner)))
        self.shuts(rule, (rows, (inner, outer[:3] + (outer[3][::-1],) + outer[4:])))
        self.shuts(rule, (rows, (inner, outer[:3] + ((outer[3][0],) * 2,) + outer[4:])))

    def test_a_fault_that_no_catch_names(self):
        rule = rule_of(" try\n  note 1\n catch w x\n  note 2\n last\n  note 3")
        rows, guards = code_of(rule)
        own = guards[0]
        self.lets(rule, (rows, guards))
        self.shuts(rule, (rows, (own[:4] + (-1,),) + guards[1:]))
        # The last may be told by another guard of the same try.
        self.lets(rule, (rows, (own[:4] + (-1,), own[:3] + ((), own[4])) + guards[1:]))
        self.shuts(rule, (rows, (own[:3] + ((), own[4]), own[:4] + (-1,)) + guards[1:]))

    def test_a_leave_goes_only_to_tries_within_its_while(self):
        rule = rule_of(" try\n  while 1\n   leave\n last\n  note 1")
        self.lets(rule, code_of(rule))
        inner = rule_of(" while 1\n  try\n   leave\n  last\n   note 1")
        rows, guards = code_of(inner)
        self.lets(inner, (rows, guards))
        self.shuts(inner, (rows, ()))

    def test_guards_behind_one_that_an_end_goes_to(self):
        """Faults and ends go to the first guard: so only a leave, which passes over it, meets the one behind."""
        rule = rule_of(" try\n  while 1\n   try\n    note 1\n   last\n    note 2\n   note 3\n last\n  note 4")
        rows, guards = code_of(rule)
        inner, outer = guards
        at = rows.index(("deed", (0, 0, 0, 0, 1)))
        first, second = (at, at + 1) + outer[2:], (at, at + 1) + inner[2:]
        self.lets(rule, (rows, (first, inner, outer)))
        self.lets(rule, (rows, (first, second[:4] + (-1,), inner, outer)))
        self.shuts(rule, (rows, (first, second, inner, outer)))
        # Without the while around them none would meet it.
        alone = rule_of(" try\n  try\n   note 1\n  last\n   note 2\n  note 3\n last\n  note 4")
        rows, (inner, outer) = code_of(alone)
        at = rows.index(("deed", (0, 0, 1)))
        self.lets(alone, (rows, ((at, at + 1) + outer[2:], (at, at + 1) + inner[2:], inner, outer)))

    def test_guards_over_rows_that_nothing_reaches(self):
        rule = rule_of(" end 1\n try\n  note 1\n last\n  note 2")
        rows, guards = code_of(rule)
        self.lets(rule, (rows, guards))
        self.shuts(rule, (rows, ()))

    def test_varied_codes_with_one_number_or_guard_otherwise(self):
        let = shut = 0
        for at, rule in enumerate(rules(12)):
            rows, guards = varied(code_of(rule), at)
            numbers = [(0, n, len(row) - 1) for n, row in enumerate(rows) if row[0] in ("test", "jump", "leave", "resume")]
            numbers += [(1, n, m) for n in range(len(guards)) for m in (0, 1, 4)]
            for n, path in enumerate(numbers):
                number = part_at((rows, guards), path)
                other = (number + 1, number - 1, (n * 7) % len(rows))[n % 3]
                if self.alike(rule, changed_at((rows, guards), path, other)):
                    let += 1
                else:
                    shut += 1
        self.assertGreater(let, 100)
        self.assertGreater(shut, 300)


class AskersOwnTest(Case):
    def test_what_is_handed_in_stays_and_the_same_is_told_twice(self):
        for rule in RULES:
            thing = [list(code_of(rule)), {"rows": code_of(rule)}]
            for handed in (code_of(rule), thing):
                before, rule_before = copy.deepcopy(handed), copy.deepcopy(rule)
                told = is_code(rule, handed)
                self.assertIs(is_code(rule, handed), told)
                self.assertEqual((handed, rule), (before, rule_before))


if __name__ == "__main__":
    unittest.main()
