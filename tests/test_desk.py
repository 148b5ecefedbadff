"""Promise 34: the desk, its rows and its refusals."""

import copy
import itertools
import unittest

from handedon.codehall import CodeHall
from handedon.codes import codes_of
from handedon.desk import Desk
from handedon.errors import Full, GiverError, NoAsk, NoGiver, NoRow, NoRule, NoText, NoWorth
from handedon.kept import code_from, tree_from
from handedon.reader import read_book
from handedon.shorter import shortened
from handedon.treehall import TreeHall
from handedon.worths import worth_text
from handedon.writer import book_text
from tests.lively import Lively
from tests.samples import BOOK, ODD

TEXT = """rule count(n)
 while (0 < n)
  got = give n
  note got
  n = (n - 1)
 end 50
rule over(g)
 x = on g
 end x
rule catches()
 try
  x = give none
 catch w y
  x = give y
  fault v x
 last
  note 88
rule runs(n)
 x = give 1
 while (0 < n)
  n = (n - 1)
 end n"""
# Each row with words as it needs them, but make.
ROWS = {"send": ["#0", "1"], "fault": ["#0", "w", "1"], "close": ["#0"], "state": ["#0"], "chain": ["#0"], "worths": ["#0"],
        "notes": [], "many": [], "steps": [], "hops": [], "walk": [], "machine": [], "short": []}
LOOKS = ("notes", "many", "steps", "hops")


def desk_of(*rows, text=TEXT):
    """A desk that was told these rows."""
    desk = Desk(text)
    for row in rows:
        desk.say(row)
    return desk


def looked(desk):
    """All that a desk tells without changing anything."""
    told = [desk.say(row) for row in LOOKS]
    for k in range(int(desk.say("many"))):
        told += [desk.say(f"{word} #{k}") for word in ("state", "chain", "worths")]
    return told


class Case(unittest.TestCase):
    def says(self, desk, *pairs):
        for row, answer in pairs:
            self.assertEqual(desk.say(row), answer, row)

    def refused(self, desk, row, error):
        """The row is refused just so, and the desk tells all as ahead of it."""
        before = looked(desk)
        with self.assertRaises(GiverError) as caught:
            desk.say(row)
        self.assertIs(type(caught.exception), error, row)
        if error is NoText:
            self.assertEqual(caught.exception.at, 0, row)
        self.assertEqual(looked(desk), before, row)


class MakingTest(Case):
    def test_no_text(self):
        lines = TEXT.count("\n") + 1
        for thing, at in [("", 0), ("rule", 0), (TEXT + "\n", lines), (TEXT + "\n leave", lines + 1), (" " + TEXT, 0),
                          ("rule a()\n note", 1), ("rule a()", 1)] + [(thing, 0) for thing in ODD if not isinstance(thing, str)]:
            with self.assertRaises(NoText) as caught:
                Desk(thing)
            self.assertEqual(caught.exception.at, at, thing)

    def test_a_new_desk(self):
        desk = Desk(TEXT)
        self.says(desk, ("many", "0"), ("steps", "0"), ("hops", "0"), ("notes", "nothing"))
        self.assertIsInstance(Desk(book_text(BOOK)), Desk)


class RowsTest(Case):
    def test_each_row(self):
        desk = Desk(TEXT)
        self.says(
            desk, ("make count 2", "#0"), ("make over #0", "#1"), ("state #1", "new"), ("worths #1", "#0 none"), ("chain #1", "#1"),
            ("send #1 none", "given 2"), ("state #1", "hands on 1 #0"), ("state #0", "gives 1"), ("chain #1", "#1 #0"),
            ("notes", "nothing"), ("send #1 #1", "given 1"), ("notes", "#0:#1"), ("send #1 -7", "ended 50"),
            ("notes", "#0:#1 #0:-7"), ("state #1", "ended"), ("worths #1", "nothing"), ("chain #1", "#1"), ("many", "2"),
            ("steps", "12"), ("hops", "6"), ("send #1 5", "ended none"), ("hops", "7"),
            ("make catches", "#2"), ("send #2 3", "given none"), ("fault #2 w 4", "given 4"), ("state #2", "gives 2"),
            ("worths #2", "none 4"), ("close #2", "closed"), ("notes", "#0:#1 #0:-7 #2:88"),
            ("make catches", "#3"), ("close #3", "closed"), ("make catches", "#4"), ("send #4 none", "given none"),
            ("close #4", "closed"), ("make catches", "#5"), ("send #5 none", "given none"), ("fault #5 w #5", "given #5"),
            ("send #5 9", "fault v 9"), ("fault #5 u none", "fault u none"), ("fault #5 close 7", "fault close 7"),
        )

    def test_a_close_to_which_it_gives(self):
        desk = Desk("rule main()\n try\n  x = give 1\n catch close y\n  x = give 2")
        self.says(desk, ("make main", "#0"), ("send #0 none", "given 1"), ("close #0", "fault gives none"), ("close #0", "closed"))

    def test_worths(self):
        desk = Desk("rule main(a, b, c)\n a = give b")
        most = "9" * 30
        self.says(desk, (f"make main {most} -{most} none", "#0"), ("worths #0", f"{most} -{most} none"), ("make main #0 0 -1", "#1"),
                  ("worths #1", "#0 0 -1"), ("make main #1 #0 #1", "#2"), (f"send #0 -{most}", f"given -{most}"))
        self.says(Desk("rule main()\n note 1"), ("make main", "#0"), ("worths #0", "nothing"))

    def test_300_steps_and_301(self):
        # Ahead of the end a note and the while's last test; each round is two steps.
        for rounds, last, answer in ((149, "", "ended 0"), (149, "\n note 5", "stopped"), (148, "", "ended 0"), (150, "", "stopped")):
            text = f"rule main(n)\n while (0 < n)\n  n = (n - 1){last}\n end n"
            for kind in ("walk", "machine", "short"):
                desk = desk_of(kind, f"make main {rounds}", text=text)
                before = looked(desk)
                self.assertEqual(desk.say("send #0 none"), answer, (rounds, kind))
                if answer == "stopped":
                    self.assertEqual(looked(desk), before)
                else:
                    self.assertEqual(desk.say("steps"), str(2 * rounds + 2))

    def test_a_hundred_givers_and_one_more(self):
        desk = Desk(TEXT)
        for k in range(100):
            self.assertEqual(desk.say("make catches"), f"#{k}")
        self.refused(desk, "make catches", Full)
        self.refused(desk, "make catches 1", NoWorth)
        self.refused(desk, "make catch", NoRule)
        self.refused(desk, "make catches #100", NoText)
        self.says(desk, ("many", "100"), ("send #99 none", "given none"), ("state #99", "gives 1"))
        for kind in ("machine", "short", "walk"):
            self.says(desk, (kind, "ok"), ("many", "100"), ("state #99", "gives 1"))
            self.refused(desk, "make catches", Full)

    def test_each_word_of_a_book_may_be_a_rules_name(self):
        """What stands in the place of a name is whatever it is."""
        desk = Desk("rule send()\n end 1\nrule walk()\n end 2")
        self.says(desk, ("make send", "#0"), ("make walk", "#1"), ("send #1 none", "ended 2"))

    def test_texts_are_told(self):
        desk = desk_of("make count 2")
        for row in ("send #0 1", "state #0", "chain #0", "worths #0", "notes", "many", "steps", "hops", "walk", "make count 1"):
            self.assertIs(type(desk.say(row)), str)


class RefusalTest(Case):
    def test_no_text_is_no_row(self):
        desk = desk_of("make count 2", "send #0 1")
        for thing in ODD:
            if not isinstance(thing, str):
                self.refused(desk, thing, NoRow)
        for thing in (["many"], ("many",), {"many": "many"}, ("send", "#0", "1"), ["send #0 1"]):
            self.refused(desk, thing, NoRow)

    def test_other_first_words(self):
        desk = desk_of("make count 2", "send #0 1")
        for row in [thing for thing in ODD if isinstance(thing, str)] + [
            "Many", "many\n", "\nmany", "manys", "man", "ask #0 1", "cast #0 w 1", "keep", "record", "#0", "none", "send\n#0 1",
            "walks", "SEND #0 1", "give", "hands on", "make\ncount 1", "codes", "many,steps",
        ]:
            self.refused(desk, row, NoRow)

    def test_words_too_many_and_too_few(self):
        desk = desk_of("make count 2", "send #0 1")
        for word, words in ROWS.items():
            for many in range(7):
                row = " ".join(([word] + words + ["#0", "1", "w", "", "none", "#0"])[:many + 1])
                if many != len(words):
                    self.refused(desk, row, NoRow)
            if words:
                self.refused(desk, word, NoRow)
        self.refused(desk, "make", NoRow)

    def test_blanks_doubled_ahead_and_behind(self):
        """There is a word without signs, a word like others."""
        desk = desk_of("make count 2", "send #0 1")
        for word, words in ROWS.items():
            row = " ".join([word] + words)
            for other in (" " + row, row + " ", "  " + row, row + "  "):
                self.refused(desk, other, NoRow)
            for at in range(len(words)):
                self.refused(desk, " ".join([word] + words[:at] + [""] + words[at:]), NoRow)
                # In the place of a word it is none of its kind.
                self.refused(desk, " ".join([word] + words[:at] + [""] + words[at + 1:]), NoText)
        self.refused(desk, " make count 1", NoRow)
        self.refused(desk, "make ", NoRule)
        self.refused(desk, "make  ", NoText)
        self.refused(desk, "make  count 1", NoText)
        self.refused(desk, "make  1", NoRule)
        self.refused(desk, "make count ", NoText)
        self.refused(desk, "make count  1", NoText)
        self.refused(desk, "make count 1 ", NoText)
        self.refused(desk, " ", NoRow)
        self.refused(desk, "", NoRow)

    def test_words_that_are_none_of_their_kind(self):
        desk = desk_of("make count 2", "send #0 1")
        givers = ("0", "#", "#00", "#-1", "#100", "none", "##0", "# 0"[:1] + "a", "#0\n", "1", "w", "", "#0,", "#+1", "#1e1")
        worths = ("#00", "#100", "None", "-0", "01", "+1", "1.0", "w", "", "9" * 31, "-" + "9" * 31, "(1", "1\n", "#", "#-1", "nothing")
        words = ("", "any", "W", "abcdefghi", "a1", "#0", "1", "w\n", "a-b")
        for word, kinds in (("send", "gw"), ("fault", "gaw"), ("close", "g"), ("state", "g"), ("chain", "g"), ("worths", "g")):
            for at, kind in enumerate(kinds):
                for bad in {"g": givers, "w": worths, "a": words}[kind]:
                    row = [word] + ROWS[word]
                    row[at + 1] = bad
                    self.refused(desk, " ".join(row), NoText)
        for bad in worths:
            self.refused(desk, f"make count {bad}", NoText)
            self.refused(desk, f"make count 1 {bad}", NoText)
            self.refused(desk, f"make nowhere {bad}", NoText)

    def test_as_a_hall_refuses(self):
        desk = desk_of("make count 2", "send #0 1")
        for row, error in (
            ("make nowhere", NoRule), ("make Count 1", NoRule), ("make #0 1", NoRule), ("make rule", NoRule), ("make 1", NoRule),
            ("make count", NoWorth), ("make count 1 2", NoWorth), ("make count 1 2 3 4 5", NoWorth), ("make count #1", NoWorth),
            ("make catches none", NoWorth), ("make over #99", NoWorth), ("send #1 1", NoGiver), ("send #99 1", NoGiver),
            ("fault #1 w 1", NoGiver), ("close #1", NoGiver), ("state #1", NoGiver), ("chain #1", NoGiver), ("worths #99", NoGiver),
            ("send #0 #1", NoAsk), ("send #0 #99", NoAsk), ("fault #0 w #1", NoAsk),
        ):
            self.refused(desk, row, error)

    def test_each_refusal_ahead_of_the_one_behind_it(self):
        desk = desk_of("make count 2", "send #0 1")
        for row, error in (
            # NoRow ahead of NoText, of what a hall refuses.
            ("send 0", NoRow), ("send #1", NoRow), ("send x y z", NoRow), ("state #1 #1", NoRow), ("sends #1 x", NoRow),
            ("fault x any", NoRow), ("many #1", NoRow), ("walk x", NoRow),
            # NoText ahead of what a hall refuses, whichever word it is.
            ("send #1 x", NoText), ("send x #1", NoText), ("fault #1 any 1", NoText), ("fault #1 w x", NoText),
            ("fault #0 any #1", NoText), ("make nowhere x", NoText), ("make nowhere 1 2 x", NoText), ("make count #1 x", NoText),
            # NoGiver ahead of NoAsk, NoRule ahead of NoWorth.
            ("send #1 #1", NoGiver), ("fault #1 w #1", NoGiver), ("make nowhere #1", NoRule), ("make nowhere 1 2 3 4", NoRule),
        ):
            self.refused(desk, row, error)

    def test_refusals_by_each_kind_of_hall(self):
        for kind in ("walk", "machine", "short"):
            desk = desk_of("make count 2", "send #0 1", kind, "send #0 3")
            for row, error in (("send #1 1", NoGiver), ("make count", NoWorth), ("send #0 #1", NoAsk), ("send", NoRow),
                               ("state 0", NoText), ("make nowhere", NoRule)):
                self.refused(desk, row, error)
            self.says(desk, ("notes", "#0:3"))


class HallsTest(Case):
    def test_ahead_of_all_givers(self):
        for kinds in itertools.product(("walk", "machine", "short"), repeat=2):
            desk = Desk(TEXT)
            for kind in kinds:
                self.says(desk, (kind, "ok"), ("many", "0"), ("steps", "0"), ("hops", "0"), ("notes", "nothing"))
            self.says(desk, ("make count 1", "#0"), ("send #0 1", "given 1"))

    def test_they_go_on_from_what_was_kept(self):
        for kinds in itertools.product(("walk", "machine", "short"), repeat=3):
            desk = desk_of("make count 9", "make over #0", "make over #1", "send #2 none")
            for n, kind in enumerate(kinds):
                self.says(desk, (kind, "ok"), ("notes", "nothing"), ("steps", "0"), ("hops", "0"), ("many", "3"),
                          ("chain #2", "#2 #1 #0"), ("state #2", "hands on 1 #1"), ("worths #2", "#1 none"),
                          (f"send #2 {n}", f"given {8 - n}"), ("notes", f"#0:{n}"), ("steps", "4"), ("hops", "3"))

    def test_the_hops_of_each_kind(self):
        for kind, hops in (("walk", "9"), ("machine", "5"), ("short", "5")):
            desk = desk_of("make count 9", "make over #0", "make over #1", "send #2 none", kind)
            for n in range(3):
                desk.say("send #2 1")
            self.assertEqual(desk.say("hops"), hops)

    def test_beside_halls_of_the_same(self):
        """Lively books: the desk tells in texts what halls tell."""
        for seed in range(60):
            lively = Lively(seed)
            book = lively.book()
            desk, hall = Desk(book_text(book)), TreeHall(book, 300)
            codes = codes_of(book)
            short = tuple(shortened(code) for code in codes)
            for turn in range(12):
                if turn % 3 == 0 and hall.many() < 100:
                    name, worths = lively.making(hall.many())
                    words = "".join(" " + worth_text(worth) for worth in worths)
                    self.assertEqual(desk.say(f"make {name}{words}"), f"#{hall.make(name, worths)}")
                k, how = lively.asking(hall.many())
                row = " ".join([how[0], f"#{k}"] + [part if isinstance(part, str) else worth_text(part) for part in how[1:]])
                answer = hall.ask(k, how)
                self.assertEqual(desk.say(row),
                                 " ".join(part if isinstance(part, str) else worth_text(part) for part in answer))
                self.assertEqual(looked(desk), self.shown(hall))
                kind = lively.pick(["none", "none", "walk", "machine", "short"])
                if kind != "none":
                    self.assertEqual(desk.say(kind), "ok")
                    kept = hall.keep()
                    hall = tree_from(book, kept, 300) if kind == "walk" else code_from(
                        book, codes if kind == "machine" else short, kept, 300)
                    self.assertEqual(looked(desk), self.shown(hall))

    def shown(self, hall):
        """What a desk with this hall tells."""
        notes = [f"#{row[1]}:{worth_text(row[2])}" for row in hall.record() if row[0] == "note"]
        told = [" ".join(notes) or "nothing", str(hall.many()), str(hall.steps()), str(hall.hops())]
        for k in range(hall.many()):
            state = hall.state(k)
            told.append(" ".join([state[0]] + [str(n) for n in state[1:2]] + [f"#{g}" for g in state[2:]]))
            told.append(" ".join(f"#{g}" for g in hall.chain(k)))
            told.append(" ".join(map(worth_text, hall.worths(k))) or "nothing")
        return told

    def test_desks_beside_one_another(self):
        first, second = Desk(TEXT), Desk(TEXT)
        self.says(first, ("make count 3", "#0"), ("send #0 1", "given 3"))
        self.says(second, ("many", "0"), ("make over 1", "#0"), ("machine", "ok"), ("state #0", "new"))
        self.says(first, ("state #0", "gives 1"), ("short", "ok"), ("send #0 1", "given 2"))
        self.says(second, ("send #0 1", "fault kind none"), ("notes", "nothing"))
        self.says(first, ("notes", "#0:1"), ("many", "1"))

    def test_kinds_of_halls(self):
        """Each kind is there in its turn: seen by the hops alone, so by the hall itself, too."""
        desk = desk_of("make count 2")
        self.assertIs(type(desk.hall), TreeHall)
        for row, kind in (("machine", CodeHall), ("walk", TreeHall), ("short", CodeHall), ("walk", TreeHall), ("walk", TreeHall)):
            before = desk.hall
            desk.say(row)
            self.assertIs(type(desk.hall), kind)
            self.assertIsNot(desk.hall, before)
        rows = "rule main()\n end 1\n note 2"
        desk = Desk(rows)
        desk.say("machine")
        self.assertEqual(desk.hall.codes["main"], codes_of(read_book(rows))[0])
        desk.say("short")
        self.assertEqual(desk.hall.codes["main"], ((("end", (0,)),), ()))

    def test_what_is_handed_in_stays(self):
        thing = [["many"], {"many": ("many",)}]
        before = copy.deepcopy(thing)
        self.refused(Desk(TEXT), thing, NoRow)
        self.assertEqual(thing, before)


if __name__ == "__main__":
    unittest.main()
