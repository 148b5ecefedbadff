"""Promise 11: texts of books read, and refused with the number of the line."""

import random
import unittest

from handedon.books import is_book
from handedon.errors import GiverError, NoText
from handedon.reader import read_book
from handedon.writer import book_text
from tests.makers import books
from tests.oracle import first_amiss, is_whole, may_begin
from tests.samples import BOOK, NONE, ODD, ONE, make, one_rule, op, part_at, paths_in, var, with_expression

END = ("end", NONE)
NINES = "9" * 30


def lines(*rows):
    return "\n".join(rows)


def told(text):
    """The book that is read, or the number of the line at which the text is refused."""
    try:
        return read_book(text)
    except NoText as e:
        return e.at


def in_rule(*rows):
    """A text of one rule with these lines, the first of them number 1, and more behind them."""
    return lines("rule main(p)", *rows, " end none", "rule f()", " end none")


def names(many):
    return ["abcdefghijklmnopqrstuvwxyz"[at] for at in range(many)]


class ReaderTest(unittest.TestCase):
    def refused(self, text, at):
        with self.assertRaises(NoText) as caught:
            read_book(text)
        self.assertIs(type(caught.exception.at), int)
        self.assertEqual(caught.exception.at, at, text)

    def read(self, text, book):
        self.assertEqual(read_book(text), book, text)
        self.assertEqual(book_text(book), text)

    def both(self, text, at):
        """Refused with the count of lines; with another line amiss in it, with that one's number."""
        rows = text.split("\n")
        self.assertEqual(at, len(rows))
        self.assertIsNone(first_amiss(text))
        self.refused(text, at)
        for number in range(len(rows)):
            for amiss in ("", "note", rows[number] + " ", "else", " rule z()"):
                self.refused(lines(*rows[:number], amiss, *rows[number + 1:]), number)
        self.refused(text + "\n", at)
        self.refused(text + "\n end none", at + 1)


class ReadBackTest(ReaderTest):
    def test_a_text_line_by_line(self):
        self.read(lines("rule a()", " end none"), (("a", (), (END,)),))
        self.read(
            lines("rule a(x, y)", " while (x < 3)", "  y = give x", "  x = (x + 1)", " end y", "rule b()", " note -7"),
            (
                ("a", ("x", "y"), (
                    ("while", op("<", var("x"), ("number", 3)), (
                        ("give", "y", var("x")), ("let", "x", op("+", var("x"), ONE)),
                    )),
                    ("end", var("y")),
                )),
                ("b", (), (("note", ("number", -7)),)),
            ),
        )

    def test_each_deed_of_one_line(self):
        a, g = op("+", var("a"), ONE), make("main", NONE)
        for line, deed in (
            ("x = (a + 1)", ("let", "x", a)),
            ("x = none", ("let", "x", NONE)),
            ("x = make main(none)", ("let", "x", g)),
            ("note (a + 1)", ("note", a)),
            ("x = give (a + 1)", ("give", "x", a)),
            ("x = on make main(none)", ("on", "x", g)),
            ("x, y = ask make main(none), (a + 1)", ("ask", "x", "y", g, a)),
            ("x, x = ask x, x", ("ask", "x", "x", var("x"), var("x"))),
            ("x, y = cast make main(none), ring (a + 1)", ("cast", "x", "y", g, "ring", a)),
            ("x, y = cast x, x x", ("cast", "x", "y", var("x"), "x", var("x"))),
            ("close make main(none)", ("close", g)),
            ("end (a + 1)", ("end", a)),
            ("fault ring (a + 1)", ("fault", "ring", a)),
            ("fault if none", ("fault", "if", NONE)),
            ("fault none none", ("fault", "none", NONE)),
        ):
            self.read(f"rule main(p)\n {line}", one_rule(deed, params=("p",)))

    def test_names_that_begin_like_words_of_the_language(self):
        for name in ("ifs", "trying", "ends", "noneof", "makes", "ons", "gives", "asked", "leaves", "anyone", "rules"):
            self.read(f"rule {name}({name})\n {name} = {name}", ((name, (name,), (("let", name, var(name)),)),))

    def test_many_made_books(self):
        for book in books(250):
            self.assertTrue(is_book(book))
            self.assertEqual(read_book(book_text(book)), book)

    def test_edges_of_expressions(self):
        deep = op("+", op("-", op("*", NONE, ONE), ONE), ONE)
        nested = make("withb", make("withb", make("withb", NONE)))
        empty = make("withb", make("withb", make("withb", make("witha"))))
        wide = make("withd", op("+", ONE, ONE), make("withc", NONE, NONE), ("number", -1))
        for expression, text in (
            (deep, "(((none * 1) - 1) + 1)"),
            (make("withb", deep[2]), "make withb(((none * 1) - 1))"),
            (nested, "make withb(make withb(make withb(none)))"),
            (empty, "make withb(make withb(make withb(make witha())))"),
            (wide, "make withd((1 + 1), make withc(none, none), -1)"),
            (make("witha"), "make witha()"),
            (make("withd", NONE, NONE, NONE), "make withd(none, none, none)"),
            (("number", int(NINES)), NINES),
            (("number", -int(NINES)), "-" + NINES),
            (("number", 0), "0"),
            (op("-", ("number", -1), ("number", -1)), "(-1 - -1)"),
        ):
            book = with_expression(expression)
            self.assertTrue(is_book(book))
            self.assertEqual(book_text(book).split("\n")[1], " note " + text)
            self.assertEqual(read_book(book_text(book)), book)

    def test_nine_tuples(self):
        for text in (
            "(((1 + 2) + 3) + (4 + 5))",
            "((1 + 2) + ((3 + 4) + 5))",
            "(make withd(1, 2, 3) + make withd(4, 5, 6))",
            "make withd(make withc(1, 2), make withc(3, 4), make withb(5))",
        ):
            book = read_book(book_text(with_expression(NONE)).replace("note none", "note " + text))
            self.assertIn(" note " + text, book_text(book))

    def test_ifs_and_tries(self):
        for elses in ((), (" else", "  end 2"), (" else", "  end 2", "  end 3")):
            deeds = tuple(("end", ("number", int(row[-1]))) for row in elses[1:])
            text = lines("rule main()", " if none", "  end 1", *elses)
            self.read(text, one_rule(("if", NONE, (("end", ONE),), deeds)))
        for many in range(4):
            rows = ["rule main()", " try", "  end none"] + [" catch any x", "  end none"] * many
            catches = (("any", "x", (END,)),) * many
            self.read(lines(*rows, " last", "  end none"), one_rule(("try", (END,), catches, (END,))))
            if many:
                self.read(lines(*rows), one_rule(("try", (END,), catches, ())))
                self.read(lines(*rows, " end none"), one_rule(("try", (END,), catches, ()), END))

    def test_else_and_catch_and_last_belong_to_the_deed_with_as_many_blanks(self):
        inner = ("if", NONE, (END,), ())
        self.read(
            lines("rule main()", " if none", "  if none", "   end none", " else", "  end none"),
            one_rule(("if", NONE, (inner,), (END,))),
        )
        self.read(
            lines("rule main()", " if none", "  if none", "   end none", "  else", "   end none"),
            one_rule(("if", NONE, (inner[:3] + ((END,),),), ())),
        )
        self.read(
            lines("rule main()", " try", "  try", "   end none", "  last", "   end none", " catch any x", "  end none"),
            one_rule(("try", (("try", (END,), (), (END,)),), (("any", "x", (END,)),), ())),
        )

    def test_the_most_of_each(self):
        deeds = END
        for word in ("while", "if", "while", "if"):
            deeds = (word, NONE, (deeds,), ()) if word == "if" else (word, NONE, (deeds,))
        self.read(
            lines("rule main()", " if none", "  while none", "   if none", "    while none", "     end none"),
            one_rule(deeds),
        )
        self.read(lines("rule main()", *[" end none"] * 30), one_rule(*(END,) * 30))
        self.read(lines("rule main(a, b, c)", " end none"), one_rule(END, params=("a", "b", "c")))
        eight = tuple((name, (), (END,)) for name in names(8))
        self.read(lines(*[f"rule {name}()\n end none" for name in names(8)]), eight)
        twelve = tuple(("let", name, NONE) for name in names(12))
        self.read(lines("rule main()", *[f" {name} = none" for name in names(12)]), one_rule(*twelve))


class FormTest(ReaderTest):
    def amiss(self, *rows):
        """Each of these lines is amiss as the first of a rule's block, whatever comes behind."""
        for row in rows:
            self.refused(in_rule(" " + row), 1)
            self.refused(lines("rule main(p)", " end none", " while none", "  " + row), 3)

    def test_what_stands_for_itself_is_so(self):
        in_rule_fine = in_rule(" while p", "  leave", " note none")
        self.assertTrue(is_book(read_book(in_rule_fine)))

    def test_lets_gives_and_ons(self):
        self.amiss(
            "x", "x =", "x = ", "= none", " = none", "x=none", "x= none", "x =none", "x  = none", "x =  none",
            "x = none ", "x == none", "x = = none", "x = none none", "x, = none", "x, y = none", "1 = none", "X = none",
            "x1 = none", "x_ = none", "if = none", "any = none", "none = none", "ninelong = nine longer",
            "abcdefghi = none", "x = give", "x = give ", "x = give1", "x = give  none", "x = give give none",
            "x = on", "x = on ", "x = on on none", "x = Give none", "give none", "on none", "x = ask none, none",
            "x, y = give none", "x, y = on none", "x = note none", "x = y = none", "x = end", "(x) = none",
        )

    def test_asks_and_casts(self):
        self.amiss(
            "x, y = ask none", "x, y = ask none,none", "x, y = ask none none", "x, y = ask none, none, none",
            "x,y = ask none, none", "x , y = ask none, none", "x, y, z = ask none, none", "x, y= ask none, none",
            "x, y =ask none, none", "x,  y = ask none, none", "x, y = ask  none, none", "x, y = ask none,  none",
            "x, y = ask none , none", "x, y = ask , none", "x, y = ask none, ", ", y = ask none, none",
            "x, = ask none, none", "x, if = ask none, none", "while, y = ask none, none", "ask none, none",
            "x, y = cast none, none", "x, y = cast none, ring", "x, y = cast none, ring ", "x, y = cast none, any none",
            "x, y = cast none ring none", "x, y = cast none, ring, none", "x, y = cast none, ring  none",
            "x, y = cast none, Ring none", "x, y = cast none, r1 none", "x, y = cast none, abcdefghi none",
            "x, y = cast none,ring none", "x, y = cast none, 1 none", "x = cast none, ring none", "cast none, ring none",
            "x, y = cast ring none", "x, y = cast none, ring none none", "x, any = cast none, ring none",
        )

    def test_notes_closes_ends_faults_and_leaves(self):
        for word in ("note", "close", "end"):
            self.amiss(
                word, word + " ", word + "none", word + "  none", word + " none ", word + " none none", word + "(none)",
                word + " none, none", word.upper() + " none", word + " ring none", word + " = none", word + "s none",
            )
        self.amiss(
            "fault", "fault ring", "fault ring ", "fault none", "fault any none", "fault 1 none", "fault ring  none",
            "fault  ring none", "fault ring, none", "fault Ring none", "fault abcdefghi none", "fault ring none none",
            "faultring none", "fault ring none ", "fault (ring) none", "leave ", "leaves", "leave none", "leave()", "Leave",
            "leav", "", "x", "none", "()", "# note", "\t", "pass",
        )

    def test_heads_of_blocks(self):
        for word in ("if", "while"):
            for head in (word, word + " ", word + "none", word + "  none", word + " none ", word + " none:", word + " any",
                         word + " none none", word + " none, none", word.title() + " none", word + " (none)"):
                self.refused(in_rule(" " + head, "  end none"), 1)
        for head in ("try ", "try:", "Try", "try none", "tries", "tr"):
            self.refused(in_rule(" " + head, "  end none", " last", "  end none"), 1)
        for head in ("else ", "else:", "Else", "else none", "els", "elses", "elif none", "last"):
            self.refused(in_rule(" if none", "  end none", " " + head, "  end none"), 3)
        for head in ("last ", "last:", "Last", "last none", "lasts", "finally", "else"):
            self.refused(in_rule(" try", "  end none", " " + head, "  end none"), 3)
        for head in ("catch", "catch ", "catch any", "catch any ", "catch any x ", "catch  any x", "catch any  x",
                     "catch any, x", "catch any 1", "catch 1 x", "catch any if", "catch any any", "catch any none",
                     "catch x", "catch abcdefghi x", "catch any abcdefghi", "catchany x", "catch any x y", "Catch any x",
                     "catch Any x", "catch (any) x", "catch any (x)", "catch any = x"):
            self.refused(in_rule(" try", "  end none", " " + head, "  end none"), 3)
        for caught in ("any", "ring", "none", "catch", "abcdefgh", "x"):
            self.assertTrue(is_book(read_book(in_rule(" try", "  end none", f" catch {caught} x", "  end none"))))

    def test_rules(self):
        for head in ("rule", "rule ", "rule a", "rule a ()", "rule a(", "rule a)", "rule a())", "rule a(()", "rule a() ",
                     "rule  a()", " rule a()", "rulea()", "rule a( )", "rule a(x,y)", "rule a(x , y)", "rule a(x,  y)",
                     "rule a(x, )", "rule a(, x)", "rule a(,)", "rule a(x y)", "rule a(x, y", "rule a x", "rule ()",
                     "rule if()", "rule any()", "rule A()", "rule a1()", "rule abcdefghi()", "rule a(if)", "rule a(x, on)",
                     "rule a(1)", "rule a(none)", "rule a(X)", "rule a(abcdefghi)", "rule a(x):", "Rule a()", "a()",
                     "rule a(x, (y))", "rule a(x)(y)", "rule a(x, y) z", "rule a( x)", "rule a(x )", "rule a, b()"):
            self.refused(lines(head, " end none"), 0)
            self.refused(lines("rule main()", " end none", head, " end none"), 2)

    def test_expressions(self):
        self.amiss(*["note " + text for text in (
            "None", "none none", "nonex1", "x1", "X", "any", "if", "abcdefghi", "_", "'x'", "#1", "00", "01", "-0", "-01",
            "+1", "--1", "- 1", "1a", "1-1", "1.0", "1_0", "0x1", "1 ", "-", NINES + "0", "-1" + NINES,
            "x + y", "(x)", "()", "(x + y", "x + y)", "((x + y)", "(x + y))", "(x +y)", "(x+ y)", "(x+y)", "(x  + y)",
            "(x +  y)", "( x + y)", "(x + y )", "(x / y)", "(x > y)", "(x == y)", "(x <= y)", "(x % y)", "(x ** y)",
            "(x + y + z)", "(x + )", "( + y)", "(+ x y)", "(x y)", "(x, y)", "[x + y]", "((x) + y)", "(x + -)", "(x ( y)",
            "make", "make ", "make f", "make f ", "make f(", "make f)", "make f ()", "makef()", "make  f()", "make f( )",
            "make f())", "make (x)", "make if()", "make any()", "make F()", "make f1()", "make abcdefghi()",
            "make f(x", "make f(x,y)", "make f(x , y)", "make f(x,  y)", "make f(x, )", "make f(, x)", "make f(,)",
            "make f(x y)", "make f(x)(y)", "make f(x) ", "f()", "f(x)", "make f(x, y", "make f((x))", "make f(x + y)",
            "make f[x]", "make make f()", "(make f() + )", "make f(make)", "make f(x, Y)",
        )])

    def test_one_deeper_one_more_tuple_one_more_arg_one_more_figure(self):
        self.amiss(*["note " + text for text in (
            "((((1 + 2) + 3) + 4) + 5)", "(1 + (2 + (3 + (4 + 5))))", "make f(make f(make f(make f(1))))",
            "make f((make f((1 + 2)) + 3))", "make f(make f(make f(make f(make f()))))", "(((make f(1) + 1) + 1) + 1)",
            "(((1 + 2) + (3 + 4)) + make f(5))", "make f(make f(1, 2), make f(3, 4), make f(5, 6))",
            "(make f(1, 2, 3) + make f(4, 5, make f(6)))", "(((1 + 2) + (3 + 4)) + ((5 + 6) + 7))",
            "make f(1, 2, 3, 4)", "make f(x, x, x, x, x)", "(1 + make f(1, 2, 3, 4))", "1" + "0" * 30, "-1" + "0" * 30,
            "make f(1" + "0" * 30 + ")",
        )])
        # It is the line of the expression that is amiss, also at the second expression of a line.
        self.amiss("x, y = ask none, make f(1, 2, 3, 4)", "x, y = cast make f(1, 2, 3, 4), ring none")

    def test_each_line_with_one_sign_more_or_less_or_another(self):
        text = book_text(BOOK)
        signs = " (),=-+0a"
        counts = {}
        for at in range(len(text)):
            ahead, behind = text[:at], text[at + 1:]
            changed = [ahead + behind] + [ahead + sign + behind for sign in signs + "\n#"]
            changed += [ahead + sign + text[at:] for sign in signs + "\n"]
            for other in changed:
                amiss = first_amiss(other)
                answer = told(other)
                if amiss is not None:
                    self.assertEqual(answer, amiss, other)
                elif isinstance(answer, tuple):
                    self.assertEqual(book_text(answer), other)
                else:
                    self.assertEqual(answer, other.count("\n") + 1, other)
                sort = ("amiss" if amiss is not None else "read" if isinstance(answer, tuple) else "counted")
                counts[sort] = counts.get(sort, 0) + 1
        self.assertGreater(min(counts[sort] for sort in ("amiss", "read", "counted")), 100, counts)


class OrderTest(ReaderTest):
    def test_lines_that_may_not_come_where_they_stand(self):
        for rows, at in (
            ([" end none"], 0),
            (["end none"], 0),
            (["else"], 0),
            (["rule a()", "rule b()", " end none"], 1),
            (["rule a()", "end none"], 1),
            (["rule a()", "  end none"], 1),
            (["rule a()", " rule b()"], 1),
            (["rule a()", " else", "  end none"], 1),
            (["rule a()", " catch any x", "  end none"], 1),
            (["rule a()", " last", "  end none"], 1),
            (["rule a()", " end none", "  end none"], 2),
            (["rule a()", " end none", " else", "  end none"], 2),
            (["rule a()", " end none", "end none"], 2),
            (["rule a()", " while none", " end none"], 2),
            (["rule a()", " while none", "   end none"], 2),
            (["rule a()", " while none", "rule b()"], 2),
            (["rule a()", " while none", "  end none", " else", "  end none"], 3),
            (["rule a()", " while none", "  end none", " last", "  end none"], 3),
            (["rule a()", " if none", " else", "  end none"], 2),
            (["rule a()", " if none", "  end none", "  else", "   end none"], 3),
            (["rule a()", " if none", "  end none", "else", " end none"], 3),
            (["rule a()", " if none", "  end none", " else", " end none"], 4),
            (["rule a()", " if none", "  end none", " else", "  end none", " else", "  end none"], 5),
            (["rule a()", " if none", "  end none", " end none", " else", "  end none"], 4),
            (["rule a()", " if none", "  end none", " last", "  end none"], 3),
            (["rule a()", " if none", "  end none", " catch any x", "  end none"], 3),
            (["rule a()", " try", " last", "  end none"], 2),
            (["rule a()", " try", "  end none", " else", "  end none"], 3),
            (["rule a()", " try", "  end none", " end none"], 3),
            (["rule a()", " try", "  end none", "rule b()", " end none"], 3),
            (["rule a()", " try", "  end none", "  last", "   end none"], 3),
            (["rule a()", " try", "  end none", "last", " end none"], 3),
            (["rule a()", " try", "  end none", " catch any x", " last", "  end none"], 4),
            (["rule a()", " try", "  end none", " catch any x", " catch any x", "  end none"], 4),
            (["rule a()", " try", "  end none", " last", " end none"], 4),
            (["rule a()", " try", "  end none", " last", "  end none", " last", "  end none"], 5),
            (["rule a()", " try", "  end none", " last", "  end none", " catch any x", "  end none"], 5),
            (["rule a()", " try", "  end none", " end none", " last", "  end none"], 3),
            (["rule a()", " try", "  try", "   end none", " last", "  end none"], 4),
            (["rule a()", " try", "  while none", "   end none", " end none"], 4),
            (["rule a()", " try", "  end none", " catch any x", "  try", "   end none", "  end none"], 6),
        ):
            self.assertEqual(first_amiss(lines(*rows)), at, rows)
            self.refused(lines(*rows), at)
            # What comes behind plays no part.
            self.refused(lines(*rows, " end none", "rule z()", " end none", ""), at)

    def test_a_text_that_lacks_its_end(self):
        for rows in (
            ["rule a()"],
            ["rule a()", " end none", "rule b(x)"],
            ["rule a()", " if none"],
            ["rule a()", " while none"],
            ["rule a()", " try"],
            ["rule a()", " try", "  end none"],
            ["rule a()", " try", "  end none", " catch any x"],
            ["rule a()", " try", "  end none", " last"],
            ["rule a()", " try", "  end none", " catch any x", "  end none", " last"],
            ["rule a()", " if none", "  end none", " else"],
            ["rule a()", " try", "  try", "   end none", "  last", "   end none"],
            ["rule a()", " while none", "  try", "   if none", "    end none"],
        ):
            self.assertEqual(first_amiss(lines(*rows)), len(rows))
            self.refused(lines(*rows), len(rows))

    def test_none_to_six_blanks(self):
        whiles = [" " * blanks + "while none" for blanks in range(1, 7)]
        for blanks in range(1, 6):
            rows = ["rule a()"] + whiles[:blanks - 1]
            self.assertTrue(is_book(read_book(lines(*rows, " " * blanks + "end none"))))
            for other in range(8):
                if other != blanks:
                    self.refused(lines(*rows, " " * other + "end none"), blanks)

    def test_no_block_can_be_under_five_blanks(self):
        rows = ["rule a()"] + [" " * blanks + "while none" for blanks in range(1, 5)]
        for head in ("if none", "while none", "try"):
            self.refused(lines(*rows, "     " + head), 5)
            self.refused(lines(*rows, "     " + head, "      end none"), 5)
            self.refused(lines(*rows, "     end none", "     " + head, "      end none"), 6)
            four = lines(*rows[:-1], "    " + head, "     end none") + ("\n    last\n     end none" if head == "try" else "")
            self.assertTrue(is_book(read_book(four)))

    def goes_on(self, rows, sorts, choices, more):
        """Each of the choices behind these lines, which some text begins with, and so on for some more lines."""
        for sort, line in choices:
            text = lines(*rows, line)
            behind = sorts + (sort,)
            self.seen += 1
            if not may_begin(behind):
                self.refused(text, len(rows))
                self.refused(lines(text, " end none", "rule b()"), len(rows))
                continue
            if is_whole(behind):
                self.assertIn(told(text), (len(behind), self.as_read(text)))
            else:
                self.refused(text, len(behind))
            if more > 1:
                self.goes_on(rows + [line], behind, choices, more - 1)

    def as_read(self, text):
        """The text's book, where there is one that is so written."""
        answer = told(text)
        return answer if isinstance(answer, tuple) and book_text(answer) == text else None

    def choices(self, blanks):
        heads = {"s": "end none", "i": "if none", "e": "else", "w": "while none", "t": "try", "c": "catch any x", "l": "last"}
        found = [(f"{many}{sort}", " " * many + line) for many in blanks for sort, line in heads.items()]
        return found + [("0r", "rule a()"), ("", "rule"), ("", "")]

    def test_all_ways_in_which_some_lines_may_come(self):
        self.seen = 0
        self.goes_on([], (), self.choices(range(3)), 6)
        deep = [("0r", "rule a()"), ("1w", " while 1"), ("2i", "  if 1"), ("3t", "   try"), ("4s", "    end 1")]
        self.goes_on([line for sort, line in deep], tuple(sort for sort, line in deep), self.choices(range(2, 7)), 3)
        self.assertGreater(self.seen, 5000)


class CountTest(ReaderTest):
    def test_rules(self):
        rows = [row for name in names(9) for row in (f"rule {name}()", " end none")]
        self.assertTrue(is_book(read_book(lines(*rows[:16]))))
        self.both(lines(*rows), 18)

    def test_deeds(self):
        self.both(lines("rule a()", *[" end none"] * 31), 32)
        inner = [" while none"] + ["  end none"] * 30
        self.assertTrue(is_book(read_book(lines("rule a()", *inner[:-1]))))
        self.both(lines("rule a()", *inner), 32)

    def test_variables(self):
        rows = [f" {name} = none" for name in names(13)]
        self.assertTrue(is_book(read_book(lines("rule a()", *rows[:12]))))
        self.both(lines("rule a()", *rows), 14)
        self.both(lines("rule a(y, z)", *rows[:11]), 12)

    def test_params(self):
        self.both(lines("rule a(x, y, z, w)", " end none"), 2)
        self.both(lines("rule a(x, y, z, w, v, u, t, s, r, q)", " end none"), 2)
        self.both(lines("rule a(x, y, x)", " end none"), 2)

    def test_catches(self):
        rows = ["rule a()", " try", "  end none"] + [" catch any x", "  end none"] * 4
        self.assertTrue(is_book(read_book(lines(*rows[:9]))))
        self.both(lines(*rows), 11)
        self.both(lines(*rows, " last", "  end none"), 13)

    def test_unlike_names_of_rules(self):
        self.both(lines("rule a()", " end none", "rule b()", " end none", "rule a(x)", " end none"), 6)

    def test_leaves(self):
        self.both(lines("rule a()", " leave"), 2)
        self.both(lines("rule a()", " while none", "  leave", " leave"), 4)
        self.both(lines("rule a()", " if none", "  leave", " try", "  end none", " last", "  leave"), 7)

    def test_makes(self):
        self.both(lines("rule a()", " x = make b()"), 2)
        self.both(lines("rule a()", " x = make a(none)"), 2)
        self.both(lines("rule a(x, y)", " note (1 + make a(none))"), 2)
        self.both(lines("rule a(x)", " note make a(make a())"), 2)
        self.both(lines("rule a()", " end make b(1)", "rule b()", " end none"), 4)

    def test_several_at_once(self):
        self.both(lines("rule a(x, x)", " leave", *[" note make c()"] * 31, "rule a()", " leave"), 35)


class NoTextTest(ReaderTest):
    def test_what_is_no_text(self):
        for thing in ODD + [BOOK, book_text(BOOK).split("\n"), tuple(book_text(BOOK).split("\n")), {"rule a()": "end"}]:
            if not isinstance(thing, str):
                self.refused(thing, 0)

    def test_texts_of_odd_signs(self):
        for text in ODD:
            if isinstance(text, str):
                self.refused(text, 0)

    def test_without_signs_and_line_ends_alone(self):
        self.refused("", 0)
        self.refused(" ", 0)
        self.refused("\n", 0)
        self.refused("\nrule a()\n end none", 0)
        self.refused("rule a()\n end none\n", 2)
        self.refused("rule a()\n\n end none", 1)
        self.refused("rule a()\n", 1)
        self.refused("rule a()\n ", 1)

    def test_a_refusal_is_one_of_the_program(self):
        for thing in (None, "", "rule a()"):
            self.assertRaises(GiverError, read_book, thing)

    def test_long_texts_are_told_at_once(self):
        self.refused("\n" * 39999, 0)
        self.refused("(" * 40000, 0)
        self.refused("rule a()\n note " + "(" * 39000, 1)
        self.refused("rule a()\n note " + "make a(" * 5000, 1)
        self.refused("rule a()\n note make a(" + "x, " * 13000 + "x)", 1)
        self.refused("rule a()\n note " + "9" * 39000, 1)
        self.refused("rule a()\n note -" + "9" * 39000, 1)
        self.refused("rule a()\n " + "x" * 39000, 1)
        self.refused("rule " + "x" * 39000, 0)
        self.refused("rule a()" + "\n end none" * 3900, 3901)
        self.refused("rule a()" + "\n end none" * 3900 + "\n" + " " * 900, 3901)
        self.refused("rule a(" + "x, " * 13000 + "x)\n end none", 2)
        self.refused("rule a()\n" + " " * 39000 + "end none", 1)
        self.refused("rule a()\n while none" + "\n  end none" * 3500, 3502)


class AllOfItTest(ReaderTest):
    def test_what_is_read_is_of_plain_kinds(self):
        for book in (read_book(book_text(one)) for one in [BOOK] + books(20)):
            for path in paths_in(book):
                self.assertIn(type(part_at(book, path)), (tuple, str, int))

    def test_the_same_is_told_again(self):
        text = book_text(BOOK)
        self.assertEqual(read_book(text), BOOK)
        self.assertEqual(read_book(text), BOOK)
        self.refused(text + "\n", 31)
        self.assertEqual(read_book(text), BOOK)

    def test_nothing_is_changed(self):
        for thing in ([], ["rule a()"], {"a": [1]}, [[["rule a()", " end none"]]]):
            kept = repr(thing)
            self.refused(thing, 0)
            self.assertEqual(repr(thing), kept)

    def test_made_texts_with_lines_changed(self):
        chance = random.Random(11)
        sorts = set()
        for book in books(150):
            rows = book_text(book[:3]).split("\n")
            for _ in range(8):
                text = self.changed(chance, list(rows))
                amiss = first_amiss(text)
                answer = told(text)
                if amiss is not None:
                    self.assertEqual(answer, amiss, text)
                elif isinstance(answer, tuple):
                    self.assertTrue(is_book(answer))
                    self.assertEqual(book_text(answer), text)
                else:
                    self.assertEqual(answer, text.count("\n") + 1, text)
                sorts.add((amiss is None, isinstance(answer, tuple)))
        self.assertEqual(len(sorts), 3)

    def changed(self, chance, rows):
        """The text with one line left out, put in, moved, or with one sign changed."""
        at, other = chance.randrange(len(rows)), chance.randrange(len(rows))
        how = chance.randrange(7)
        sign = chance.randrange(len(rows[at]) + 1)
        if how == 0:
            del rows[at]
        elif how == 1:
            rows.insert(at, rows[other])
        elif how == 2:
            rows[at], rows[other] = rows[other], rows[at]
        elif how == 3:
            rows[at] = " " + rows[at]
        elif how == 4:
            rows[at] = rows[at][1:]
        elif how == 5:
            rows[at] = rows[at][:sign] + chance.choice(" (),=-+0az") + rows[at][sign:]
        else:
            rows[at] = rows[at][:sign] + rows[at][sign + 1:]
        return "\n".join(rows)


if __name__ == "__main__":
    unittest.main()
