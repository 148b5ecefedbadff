"""Promise 10: how books and expressions are written."""

import copy
import unittest

from handedon.writer import book_text, expression_text
from tests.makers import books
from tests.samples import BOOK, NONE, ONE, make, one_rule, op, var

BOOK_TEXT = """\
rule full(p, q)
 a = ((p * -3) + (none - r))
 note (q < (none = none))
 while a
  if b
   try
    try
     c = give 1
     leave
    last
     d = on make tiny()
   catch any e
    close e
   catch kind f
    fault ring none
  else
   leave
 try
  g, h = ask make full(none, make tiny()), 1
 catch full i
  g, h = cast i, close none
 last
  a = on i
  try
   a = give none
  last
   note 1
 if none
  end none
rule tiny()
 end none"""

NOTE = ("note", NONE)
MOST = int("9" * 30)


def deed_text(*deeds):
    """The lines of a rule with these deeds, that of the rule aside."""
    head, *lines = book_text(one_rule(*deeds)).split("\n")
    assert head == "rule main()"
    return lines


class ExpressionTest(unittest.TestCase):
    def test_leaves(self):
        self.assertEqual(expression_text(NONE), "none")
        self.assertEqual(expression_text(var("x")), "x")
        self.assertEqual(expression_text(var("variable")), "variable")
        for number in (0, 1, -1, 10, -120, MOST, -MOST):
            self.assertEqual(expression_text(("number", number)), str(number))

    def test_each_sign_with_single_blanks_in_brackets(self):
        for sign in "+-*<=":
            self.assertEqual(expression_text(op(sign, var("a"), ("number", -2))), f"(a {sign} -2)")

    def test_ops_within_one_another(self):
        left = op("+", op("-", op("*", NONE, ONE), var("c")), var("d"))
        self.assertEqual(expression_text(left), "(((none * 1) - c) + d)")
        right = op("<", var("a"), op("=", var("b"), op("-", ONE, NONE)))
        self.assertEqual(expression_text(right), "(a < (b = (1 - none)))")

    def test_makes_of_no_arg_to_three(self):
        self.assertEqual(expression_text(make("f")), "make f()")
        self.assertEqual(expression_text(make("f", NONE)), "make f(none)")
        self.assertEqual(expression_text(make("f", NONE, var("x"))), "make f(none, x)")
        self.assertEqual(expression_text(make("f", var("x"), ONE, make("g"))), "make f(x, 1, make g())")

    def test_makes_and_ops_within_one_another(self):
        mixed = op("+", make("f", op("*", var("a"), make("g", NONE))), make("h"))
        self.assertEqual(expression_text(mixed), "(make f((a * make g(none))) + make h())")

    def test_beyond_the_bounds_nothing_is_refused(self):
        self.assertEqual(expression_text(("number", 10 ** 39)), "1" + "0" * 39)
        self.assertEqual(expression_text(make("f", NONE, NONE, NONE, NONE)), "make f(none, none, none, none)")
        deep = NONE
        for _ in range(5):
            deep = op("+", deep, ONE)
        self.assertEqual(expression_text(deep), "(((((none + 1) + 1) + 1) + 1) + 1)")


class DeedTest(unittest.TestCase):
    def test_each_deed_of_one_line(self):
        a, b = op("+", var("a"), ONE), make("f", NONE)
        for deed, line in (
            (("let", "x", a), "x = (a + 1)"),
            (("note", a), "note (a + 1)"),
            (("give", "x", a), "x = give (a + 1)"),
            (("on", "x", b), "x = on make f(none)"),
            (("ask", "x", "y", b, a), "x, y = ask make f(none), (a + 1)"),
            (("cast", "x", "y", b, "ring", a), "x, y = cast make f(none), ring (a + 1)"),
            (("close", b), "close make f(none)"),
            (("end", a), "end (a + 1)"),
            (("fault", "ring", a), "fault ring (a + 1)"),
        ):
            self.assertEqual(deed_text(deed), [" " + line])
        self.assertEqual(deed_text(("while", NONE, (("leave",),))), [" while none", "  leave"])

    def test_an_if_without_elses_and_with_them(self):
        self.assertEqual(deed_text(("if", ONE, (NOTE, NOTE), ()), NOTE), [
            " if 1", "  note none", "  note none", " note none",
        ])
        self.assertEqual(deed_text(("if", ONE, (NOTE,), (("end", ONE), NOTE)), NOTE), [
            " if 1", "  note none", " else", "  end 1", "  note none", " note none",
        ])

    def test_a_while(self):
        self.assertEqual(deed_text(("while", var("x"), (NOTE, NOTE)), NOTE), [
            " while x", "  note none", "  note none", " note none",
        ])

    def test_tries_of_no_catch_to_three_without_lasts_and_with_them(self):
        catches = (("any", "x", (NOTE,)), ("ring", "y", (("end", ONE),)), ("ring", "x", (NOTE, NOTE)))
        lines = [" catch any x", "  note none", " catch ring y", "  end 1", " catch ring x", "  note none", "  note none"]
        for many, shown in enumerate((0, 2, 4, 7)):
            head = [" try", "  note 1"] + lines[:shown]
            lasts = [" last", "  end none", "  note none"]
            deed = ("try", (("note", ONE),), catches[:many], (("end", NONE), NOTE))
            self.assertEqual(deed_text(deed, NOTE), head + lasts + [" note none"])
            if many:
                self.assertEqual(deed_text(deed[:3] + ((),), NOTE), head + [" note none"])

    def test_as_many_blanks_as_blocks_are_around(self):
        deed = NOTE
        for word in ("while", "if", "while", "if", "while"):
            deed = (word, ONE, (deed,), ()) if word == "if" else (word, ONE, (deed,))
        self.assertEqual(deed_text(deed), [
            " while 1", "  if 1", "   while 1", "    if 1", "     while 1", "      note none",
        ])

    def test_else_and_catch_and_last_stand_as_their_deed(self):
        inner = ("if", ONE, (NOTE,), (("try", (NOTE,), (("any", "x", (NOTE,)),), (NOTE,)),))
        self.assertEqual(deed_text(("while", ONE, (inner,))), [
            " while 1", "  if 1", "   note none", "  else", "   try", "    note none", "   catch any x", "    note none",
            "   last", "    note none",
        ])


class BookTest(unittest.TestCase):
    def test_a_book_with_each_sort_of_deed(self):
        self.assertEqual(book_text(BOOK), BOOK_TEXT)

    def test_params(self):
        for params, head in (
            ((), "rule main()"), (("a",), "rule main(a)"), (("b", "a"), "rule main(b, a)"),
            (("c", "a", "b"), "rule main(c, a, b)"),
        ):
            self.assertEqual(book_text(one_rule(NOTE, params=params)), head + "\n note none")

    def test_one_rule_to_nine(self):
        for many in range(1, 10):
            rules = tuple(("abcdefghi"[at], (), (("note", ("number", at)),)) for at in range(many))
            lines = [f"rule {'abcdefghi'[at]}()\n note {at}" for at in range(many)]
            self.assertEqual(book_text(rules), "\n".join(lines))

    def test_no_blank_or_line_end_ahead_or_behind(self):
        for book in books(30):
            text = book_text(book)
            self.assertIs(type(text), str)
            self.assertEqual(text.strip(), text)
            self.assertTrue(all(line == line.rstrip() != "" for line in text.split("\n")))


class AllOfItTest(unittest.TestCase):
    def test_nothing_is_changed_and_the_same_is_told_again(self):
        for book in [BOOK] + books(30):
            kept = copy.deepcopy(book)
            text = book_text(book)
            self.assertEqual(book, kept)
            self.assertEqual(book_text(book), text)
            self.assertEqual(book_text(kept), text)

    def test_unlike_books_are_written_unlike(self):
        made = set(books(200))
        self.assertEqual(len({book_text(book) for book in made}), len(made))


if __name__ == "__main__":
    unittest.main()
