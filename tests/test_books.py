"""Promises 7 and 8, a rule's variables of 9, and what 2 says of them."""

import copy
import unittest

from handedon.books import is_book, is_name, rule_of, variables
from handedon.errors import NoRule
from tests.samples import (
    BOOK, FULL_RULE, NONE, ODD, ONE, TINY_RULE, changed_at, make, one_rule, op, part_at, paths_in, var,
    with_expression,
)

SHUT = "any ask cast catch close else end fault give if last leave make none note on rule try while".split()
NOTE = ("note", NONE)
LEAVE = ("leave",)


class IsNameTest(unittest.TestCase):
    def test_one_to_eight_letters(self):
        for many in range(1, 9):
            self.assertIs(is_name("a" * many), True)
        self.assertIs(is_name(""), False)
        self.assertIs(is_name("a" * 9), False)

    def test_each_letter(self):
        for letter in "abcdefghijklmnopqrstuvwxyz":
            self.assertIs(is_name(letter), True)
            self.assertIs(is_name(letter.upper()), False)
        for sign in "`{09_-. \n~":
            self.assertIs(is_name(sign), False)
            self.assertIs(is_name("a" + sign), False)

    def test_each_shut_name(self):
        self.assertEqual(len(SHUT), 19)
        for name in SHUT:
            self.assertIs(is_name(name), False, name)
            self.assertIs(is_name(name + "x"), True, name)
            self.assertIs(is_name("x" + name), True, name)
        for name in ("let", "var", "op", "number", "giver", "ring", "deep", "true", "an"):
            self.assertIs(is_name(name), True, name)

    def test_whatever_thing(self):
        for thing in ODD + [("a",), ["a"], {"a": "a"}]:
            self.assertIs(is_name(thing), False, repr(thing)[:80])


class ExpressionTest(unittest.TestCase):
    def taken(self, expression):
        self.assertIs(is_book(with_expression(expression)), True, expression)

    def refused(self, expression):
        self.assertIs(is_book(with_expression(expression)), False, repr(expression)[:200])

    def test_each_form(self):
        for expression in [
            NONE, ("number", 0), ("number", -5), var("x"), op("+", NONE, ONE), make("witha"), make("withb", NONE),
            make("withc", NONE, ONE), make("withd", NONE, ONE, var("x")),
        ]:
            self.taken(expression)

    def test_each_sign(self):
        for sign in ("+", "-", "*", "<", "="):
            self.taken(op(sign, NONE, NONE))
        for sign in ("", ">", "+-", "-*", "<=", "==", "/", " +", "+ ", None, True, 0, ("+",), ["+"], {}):
            self.refused(op(sign, NONE, NONE))

    def test_numbers_have_at_most_thirty_figures(self):
        for n in (10 ** 30 - 1, 1 - 10 ** 30):
            self.taken(("number", n))
        for n in (10 ** 30, -(10 ** 30), True, False, "1", None, (1,)):
            self.refused(("number", n))

    def test_four_deep(self):
        ops, makes = NONE, NONE
        for _ in range(3):
            self.taken(ops)
            self.taken(makes)
            ops, makes = op("+", ONE, ops), make("withb", makes)
        self.taken(ops)
        self.taken(makes)
        self.taken(op("+", make("withb", op("+", NONE, NONE)), NONE))
        self.refused(op("+", ONE, ops))
        self.refused(op("+", ops, ONE))
        self.refused(make("withb", makes))
        self.refused(make("withb", ops))

    def test_a_make_without_args_is_one_deep(self):
        self.taken(op("+", op("+", op("+", make("witha"), NONE), NONE), NONE))
        self.refused(op("+", op("+", op("+", make("withb", NONE), NONE), NONE), NONE))

    def test_nine_tuples(self):
        five = op("+", op("+", NONE, NONE), NONE)
        three = op("+", NONE, NONE)
        self.taken(op("+", five, three))
        self.refused(op("+", five, make("withd", NONE, NONE, NONE)))
        self.refused(op("+", op("+", three, three), three))
        self.taken(make("withd", three, three, make("withb", NONE)))
        self.taken(make("withd", three, make("withb", NONE), three))
        self.refused(make("withd", three, three, make("withc", NONE, NONE)))
        self.refused(make("withd", three, three, three))

    def test_makes_of_a_rule_with_as_many_args(self):
        args = [NONE, ONE, NONE, ONE]
        for many in range(4):
            for given in range(5):
                expression = make("with" + "abcd"[many], *(args * 2)[:given])
                if many == given:
                    self.taken(expression)
                else:
                    self.refused(expression)
        self.refused(make("withe"))
        self.taken(make("main"))
        self.refused(make("main", NONE))

    def test_makes_deep_within(self):
        self.refused(op("+", NONE, op("+", make("other"), NONE)))
        self.refused(make("withb", make("withb")))

    def test_wrong_ones(self):
        for expression in ODD + [
            ("giver", 0), ("var",), ("var", "any"), ("var", "x", "y"), ("var", None), ("var", var("x")), ("var", "X"),
            ["none"], ["var", "x"], ("op", "+", NONE), ("op", "+", NONE, NONE, NONE), ("op", "+", ["none"], NONE),
            ["op", "+", NONE, NONE], ("op", "+", NONE, ["none"]), ("op", "+", NONE, ("giver", 0)),
            ("make", "witha"), ("make", "witha", []), ("make", "witha", {}), ("make", "witha", None),
            ("make", "withb", [NONE]), ("make", "withb", (["none"],)), ("make", "withb", NONE), ("make", ["witha"], ()),
            ("make", "if", ()), ("make", "witha", (), ()), ("make", {}, ()), "none", "x", 5, ("text", "x"),
            ("make", "withb", "x"), ("make", "witha", ""), ("let", "x", NONE), ("number", 1, 2), ("none", 1),
        ]:
            self.refused(expression)


class DeedTest(unittest.TestCase):
    def taken(self, *deeds):
        self.assertIs(is_book(one_rule(*deeds)), True, deeds)

    def refused(self, *deeds):
        self.assertIs(is_book(one_rule(*deeds)), False, repr(deeds)[:200])

    PLAIN = [
        ("let", "x", NONE), ("note", NONE), ("give", "x", NONE), ("on", "x", NONE), ("ask", "x", "y", NONE, ONE),
        ("cast", "x", "y", NONE, "word", ONE), ("close", NONE), ("end", NONE), ("fault", "word", NONE),
        ("if", NONE, (NOTE,), (NOTE,)), ("if", NONE, (NOTE,), ()), ("while", NONE, (NOTE,)), ("while", NONE, (LEAVE,)),
        ("try", (NOTE,), (("any", "x", (NOTE,)),), (NOTE,)), ("try", (NOTE,), (), (NOTE,)),
        ("try", (NOTE,), (("word", "x", (NOTE,)),), ()),
    ]

    def test_each_form(self):
        for deed in self.PLAIN:
            self.taken(deed)

    def test_each_form_shorter_and_longer(self):
        for deed in self.PLAIN:
            self.refused(deed[:-1])
            self.refused(deed + (NONE,))
            self.refused(deed + ((NOTE,),))
        self.refused(("while", NONE, (("leave", NONE),)))

    def test_each_tuple_as_a_list_and_each_part_as_another_thing(self):
        for deed in self.PLAIN:
            for path in paths_in(deed):
                part = part_at(deed, path)
                others = [None, True, False, 0, 1, {}, [], [()], ("x", "y"), {"x": ()}, "", "X", "ninesigns"]
                if isinstance(part, tuple):
                    others += [list(part), part[:-1] + ([],), "x"]
                for other in others:
                    if isinstance(part, int) and other in (0, 1) and not isinstance(other, bool):
                        self.taken(changed_at(deed, path, other))
                    else:
                        self.refused(changed_at(deed, path, other))

    def test_words_and_names(self):
        self.taken(("fault", "if", NONE))
        self.taken(("cast", "x", "x", NONE, "none", NONE))
        for word in ("any", "", "ninesigns", "Up", None, True, ("a",), ["a"], {}):
            self.refused(("fault", word, NONE))
            self.refused(("cast", "x", "y", NONE, word, NONE))
        for name in SHUT + ["", "ninesigns", "Up", None, True, ("a",), ["a"], {}]:
            for deed in [
                ("let", name, NONE), ("give", name, NONE), ("on", name, NONE), ("ask", name, "y", NONE, NONE),
                ("ask", "x", name, NONE, NONE), ("cast", name, "y", NONE, "word", NONE),
                ("cast", "x", name, NONE, "word", NONE), ("try", (NOTE,), (("word", name, (NOTE,)),), ()),
            ]:
                self.refused(deed)

    def test_what_is_caught(self):
        for caught in ("any", "a", "eightlet", "none", "if", "catch"):
            self.taken(("try", (NOTE,), ((caught, "x", (NOTE,)),), ()))
        for caught in ("", "ninesigns", "Any", "a b", None, True, 1, ("any",), ["any"], {}):
            self.refused(("try", (NOTE,), ((caught, "x", (NOTE,)),), ()))

    def test_blocks_have_a_deed(self):
        self.refused()
        self.refused(("if", NONE, (), (NOTE,)))
        self.refused(("while", NONE, ()))
        self.refused(("try", (), (), (NOTE,)))
        self.refused(("try", (NOTE,), (("any", "x", ()),), (NOTE,)))

    def test_a_try_has_a_catch_or_lasts(self):
        self.refused(("try", (NOTE,), (), ()))

    def test_three_catches(self):
        catch = ("any", "x", (NOTE,))
        for many in range(4):
            self.taken(("try", (NOTE,), (catch,) * many, (NOTE,)))
        self.refused(("try", (NOTE,), (catch,) * 4, (NOTE,)))
        self.refused(("try", (NOTE,), (catch,) * 4, ()))

    def test_a_leave_stands_in_a_while(self):
        self.refused(LEAVE)
        self.refused(("while", NONE, (NOTE,)), LEAVE)
        self.refused(("if", NONE, (LEAVE,), ()))
        self.refused(("try", (NOTE,), (), (LEAVE,)))
        for within in [
            ("if", NONE, (LEAVE,), ()), ("if", NONE, (NOTE,), (LEAVE,)), ("try", (LEAVE,), (), (NOTE,)),
            ("try", (NOTE,), (("any", "x", (LEAVE,)),), ()), ("try", (NOTE,), (), (LEAVE,)),
            ("while", NONE, (LEAVE,)), ("if", NONE, (("if", NONE, (("if", NONE, (LEAVE,), ()),), ()),), ()),
        ]:
            self.taken(("while", NONE, (within,)))
            self.taken(("while", NONE, (within, LEAVE)))
            self.refused(("while", NONE, (within,)), LEAVE)

    def test_wrong_ones(self):
        for deed in ODD + [
            ["note", NONE], ("Note", NONE), (("note",), NONE), ("deed", NONE), ("make", "main", ()), NONE, ONE, "leave",
            ("catch", "any", "x", (NOTE,)), ("leave",), ["leave"], ({}, NONE), ([], NONE), (None, NONE), (True, NONE),
        ]:
            self.refused(deed)
            self.refused(NOTE, deed)
            self.refused(("while", NONE, (NOTE, deed)) if deed != LEAVE else deed)


class RuleTest(unittest.TestCase):
    def taken(self, book):
        self.assertIs(is_book(book), True, book)

    def refused(self, book):
        self.assertIs(is_book(book), False, repr(book)[:200])

    def test_params(self):
        for params in [(), ("a",), ("a", "b"), ("c", "b", "a"), ("main",)]:
            self.taken(one_rule(NOTE, params=params))
        for params in [
            ("a", "b", "c", "d"), ("a", "a"), ("a", "b", "a"), ("if",), ("",), ("A",), ["a"], [], {}, None, True, "", "a",
            (None,), (True,), (["a"],), (("a",),), ({},), ([], []),
        ]:
            self.refused(one_rule(NOTE, params=params))

    def test_thirty_deeds(self):
        self.taken(one_rule(*[NOTE] * 30))
        self.refused(one_rule(*[NOTE] * 31))

    def test_inner_deeds_are_counted(self):
        for outer in [
            lambda block: ("if", NONE, block, ()), lambda block: ("if", NONE, block[:3], block[3:]),
            lambda block: ("while", NONE, block), lambda block: ("try", block[1:], (), block[:1]),
            lambda block: ("try", block[:1], (("any", "x", block[1:5]), ("any", "x", block[5:])), ()),
            lambda block: ("try", block[:1], (), block[1:]),
        ]:
            self.taken(one_rule(outer((NOTE,) * 29)))
            self.taken(one_rule(NOTE, outer((NOTE,) * 27), NOTE))
            self.refused(one_rule(outer((NOTE,) * 30)))
            self.refused(one_rule(NOTE, outer((NOTE,) * 28), NOTE))

    def test_the_bound_is_of_each_rule(self):
        self.taken((("one", (), (NOTE,) * 30), ("two", (), (NOTE,) * 30)))

    def test_five_blocks_within_one_another(self):
        wraps = [
            lambda block: ("if", NONE, block, ()), lambda block: ("if", NONE, (NOTE,), block),
            lambda block: ("while", NONE, block), lambda block: ("try", block, (), (NOTE,)),
            lambda block: ("try", (NOTE,), (("any", "x", block),), ()), lambda block: ("try", (NOTE,), (), block),
        ]
        for inner in wraps:
            for outer in wraps:
                block = (outer((inner((inner((inner((NOTE,)),)),)),)),)
                self.taken(one_rule(*block))
                self.refused(one_rule(outer(block)))

    def test_twelve_variables(self):
        letters = "abcdefghijklm"
        reads = [("note", var(letter)) for letter in letters]
        self.taken(one_rule(*reads[:12]))
        self.refused(one_rule(*reads))
        self.taken(one_rule(*reads[:12], params=("a", "b", "c")))
        self.taken(one_rule(*reads[:9], params=("x", "y", "z")))
        self.refused(one_rule(*reads[:10], params=("x", "y", "z")))

    def test_all_that_puts_a_worth_counts(self):
        reads = tuple(("note", var(letter)) for letter in "abcdefghijk")
        for deed in [
            ("let", "x", NONE), ("give", "x", NONE), ("on", "x", NONE), ("ask", "x", "a", NONE, NONE),
            ("ask", "a", "x", NONE, NONE), ("cast", "x", "b", NONE, "w", NONE), ("cast", "b", "x", NONE, "w", NONE),
            ("try", (NOTE,), (("any", "x", (NOTE,)),), ()), ("close", op("+", NONE, make("one", var("x")))),
            ("if", var("x"), (NOTE,), ()), ("while", var("x"), (NOTE,)), ("while", NONE, (("end", var("x")),)),
            ("fault", "word", var("x")), ("ask", "a", "b", var("x"), NONE), ("ask", "a", "b", NONE, var("x")),
            ("cast", "a", "b", var("x"), "w", NONE), ("cast", "a", "b", NONE, "w", var("x")),
        ]:
            one = ("one", ("z",), (NOTE,))
            self.taken((("main", (), reads + (deed,)), one))
            self.refused((("main", (), reads + (deed, ("note", var("y")))), one))

    def test_words_and_rule_names_are_no_variables(self):
        reads = tuple(("note", var(letter)) for letter in "abcdefghijkl")
        self.taken((("main", (), reads + (("fault", "x", make("other")),)), ("other", (), (NOTE,))))

    def test_wrong_names_of_rules(self):
        for name in SHUT + ["", "ninesigns", "Up", None, True, 0, ("a",), ["a"], {}]:
            self.refused(((name, (), (NOTE,)),))


class BookTest(unittest.TestCase):
    def test_a_book_of_all(self):
        self.assertIs(is_book(BOOK), True)

    def test_one_to_eight_rules(self):
        rules = tuple((letter, (), (NOTE,)) for letter in "abcdefghi")
        for many in range(1, 9):
            self.assertIs(is_book(rules[:many]), True)
        self.assertIs(is_book(()), False)
        self.assertIs(is_book(rules), False)

    def test_names_of_rules_are_unlike(self):
        self.assertIs(is_book((TINY_RULE, TINY_RULE)), False)
        self.assertIs(is_book((TINY_RULE, ("tiny", ("a",), (NOTE,)))), False)

    def test_makes_are_looked_at_in_each_rule_and_at_each_depth(self):
        lost = ("note", make("lost"))
        for deed in [
            lost, ("if", NONE, (lost,), ()), ("if", NONE, (NOTE,), (lost,)), ("while", NONE, (lost,)),
            ("while", make("lost"), (NOTE,)), ("if", make("lost"), (NOTE,), ()), ("try", (lost,), (), (NOTE,)),
            ("try", (NOTE,), (("any", "x", (lost,)),), ()), ("try", (NOTE,), (), (lost,)), ("give", "x", make("lost")),
            ("on", "x", make("lost")), ("let", "x", make("lost")), ("ask", "x", "y", make("lost"), NONE),
            ("ask", "x", "y", NONE, make("lost")), ("cast", "x", "y", make("lost"), "w", NONE),
            ("cast", "x", "y", NONE, "w", make("lost")), ("close", make("lost")), ("end", make("lost")),
            ("fault", "w", make("lost")),
        ]:
            rule = ("main", (), (deed,))
            lost_rule = ("lost", (), (NOTE,))
            self.assertIs(is_book((TINY_RULE, rule)), False, deed)
            self.assertIs(is_book((TINY_RULE, rule, lost_rule)), True, deed)
            self.assertIs(is_book((rule, ("lost", ("a",), (NOTE,)))), False, deed)

    def test_each_tuple_as_a_list(self):
        for path in paths_in(BOOK):
            part = part_at(BOOK, path)
            if isinstance(part, tuple):
                self.assertIs(is_book(changed_at(BOOK, path, list(part))), False, path)

    def test_each_part_as_another_thing(self):
        for path in paths_in(BOOK):
            for other in [None, True, False, {}, [], [1], "", "A B", 10 ** 31, (0,), ((),), (((),),), {"a": NONE}]:
                self.assertIs(is_book(changed_at(BOOK, path, other)), False, (path, other))

    def test_whatever_thing(self):
        for thing in (FULL_RULE, TINY_RULE):
            self.assertIs(is_book(thing), False)
        for thing in ODD + [list(BOOK), {"full": FULL_RULE}, BOOK, "tiny", list(TINY_RULE), (list(TINY_RULE),)]:
            self.assertIs(is_book(thing), thing == BOOK, repr(thing)[:80])
            self.assertIs(is_book((thing,)), False, repr(thing)[:80])
            self.assertIs(is_book((TINY_RULE, thing)), False, repr(thing)[:80])
            self.assertIs(is_book((("main", (), thing),)), False, repr(thing)[:80])
            self.assertIs(is_book((("main", (), (thing,)),)), False, repr(thing)[:80])

    def test_wide_and_deep_things_are_told_at_once(self):
        deed, tree = NOTE, NONE
        for _ in range(12):
            deed = ("if", NONE, (deed,) * 30, (deed,) * 30)
            tree = make("main", tree, tree, tree)
        self.assertIs(is_book(one_rule(deed)), False)
        self.assertIs(is_book(one_rule(("note", tree))), False)
        self.assertIs(is_book(one_rule(*[NOTE] * 5000)), False)

    def test_asked_twice_told_alike_and_nothing_changed(self):
        things = ODD + [part_at(BOOK, path) for path in paths_in(BOOK)] + [BOOK, list(BOOK)]
        kept = copy.deepcopy(things)
        first = [(is_book(thing), is_name(thing)) for thing in things]
        second = [(is_book(thing), is_name(thing)) for thing in things]
        self.assertEqual(first, second)
        self.assertEqual(repr(things), repr(kept))


class RuleOfTest(unittest.TestCase):
    def test_the_rule(self):
        self.assertEqual(rule_of(BOOK, "full"), FULL_RULE)
        self.assertEqual(rule_of(BOOK, "tiny"), TINY_RULE)

    def test_no_rule_of_whatever_thing(self):
        for name in ODD + ["ful", "fulll", "a", "p", "none", ("full",), ["full"], {"full": 1}, FULL_RULE]:
            with self.assertRaises(NoRule):
                rule_of(BOOK, name)

    def test_a_change_behind_the_call_changes_nothing(self):
        name = ["full"]
        for _ in range(2):
            with self.assertRaises(NoRule):
                rule_of(BOOK, name)
        self.assertEqual(name, ["full"])


class VariablesTest(unittest.TestCase):
    def test_params_in_their_order_then_the_others_sorted(self):
        self.assertEqual(variables(FULL_RULE), ("p", "q", "a", "b", "c", "d", "e", "f", "g", "h", "i", "r"))
        self.assertEqual(variables(TINY_RULE), ())
        rule = ("main", ("z", "b", "m"), (("let", "y", var("c")), ("let", "b", var("a")), ("let", "ab", var("z"))))
        self.assertEqual(variables(rule), ("z", "b", "m", "a", "ab", "c", "y"))

    def test_params_alone(self):
        self.assertEqual(variables(("main", ("b", "a"), (NOTE,))), ("b", "a"))

    def test_each_deed_that_puts_a_worth(self):
        for deed, names in [
            (("let", "x", NONE), ("x",)), (("give", "x", NONE), ("x",)), (("on", "x", NONE), ("x",)),
            (("ask", "y", "x", NONE, NONE), ("x", "y")), (("cast", "y", "x", NONE, "w", NONE), ("x", "y")),
            (("ask", "x", "x", NONE, NONE), ("x",)), (("fault", "w", NONE), ()), (("end", NONE), ()),
            (("try", (NOTE,), (("any", "x", (NOTE,)), ("w", "a", (NOTE,))), ()), ("a", "x")),
            (("try", (("let", "c", NONE),), (("w", "a", (("let", "b", NONE),)),), (("let", "d", NONE),)), tuple("abcd")),
            (("if", var("c"), (("let", "b", NONE),), (("let", "a", NONE),)), ("a", "b", "c")),
            (("while", var("b"), (("let", "a", NONE),)), ("a", "b")),
            (("close", make("main", op("+", var("b"), make("main", var("a"))))), ("a", "b")),
        ]:
            told = variables(("main", (), (deed,)))
            self.assertEqual(told, names)
            self.assertIs(type(told), tuple)

    def test_beyond_the_bounds_nothing_is_refused(self):
        names = [a + b for a in "abc" for b in "defgh"]
        rule = ("main", (), tuple(("let", name, NONE) for name in names) * 3)
        self.assertEqual(variables(rule), tuple(sorted(names)))

    def test_asked_twice_told_alike(self):
        self.assertEqual(variables(FULL_RULE), variables(copy.deepcopy(FULL_RULE)))
        self.assertEqual(variables(FULL_RULE), variables(FULL_RULE))


if __name__ == "__main__":
    unittest.main()
