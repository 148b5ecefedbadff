"""Promises 31 to 33, 24 and 2: which tuples are kept halls, and halls that go on from them."""

import copy
import unittest

from handedon.codehall import CodeHall
from handedon.codes import codes_of
from handedon.errors import Full, NoBook, NoCode, NoKept, NoMost, NoWorth
from handedon.kept import code_from, tree_from
from handedon.keptlooks import is_kept
from handedon.looker import leans_in, lets_record, open_in
from handedon.reader import read_book
from handedon.treehall import TreeHall
from tests.halling import (
    CLOSE, CLOSED, GO, NONE, SEND, STOPPED, ended, fault, given, giver, note_numbers, number, send,
)
from tests.kept_making import KeptMaker, second_is_kept
from tests.lively import Lively, most_of
from tests.machines import SORTS, other, plain
from tests.makers import books
from tests.samples import ODD, changed_at, part_at, paths_in
from tests.second_hops import Hops
from tests.test_codehall import CHAINS, told
from tests.test_codelook import NESTED, RULE
from tests.test_halls import outcome

OVERS = CHAINS[:2]
LASTS = read_book("""rule main(g)
 while 1
  try
   note 1
  last
   try
    note 2
   last
    x = give 3
    note 4
   note 5
  note 6
 note 7
 end 8""")


def over(g):
    """A kept giver that hands on to g."""
    return ("over", ("stands", 1, (), g), (giver(g), NONE))


def new(n=2):
    return ("count", ("new",), (number(n), NONE))


def froms(book, kept, most=300):
    """A walker's hall taken up from there, and machine's by each sort of codes."""
    return [tree_from(book, kept, most)] + [code_from(book, sort(book), kept, most) for sort in SORTS]


class KeptLookTest(unittest.TestCase):
    def lets(self, book, thing):
        self.assertIs(is_kept(book, thing), True, thing)
        self.assertTrue(second_is_kept(book, thing), thing)

    def shuts(self, book, thing):
        self.assertIs(is_kept(book, thing), False, thing)
        self.assertFalse(second_is_kept(book, thing), thing)

    def alike(self, book, thing):
        there = is_kept(book, thing)
        self.assertIs(there, second_is_kept(book, thing), thing)
        return there

    def test_what_halls_keep(self):
        for seed in range(120):
            lively = Lively(seed)
            hall = TreeHall(lively.book(), most_of(seed))
            self.lets(hall.book, hall.keep())
            for turn in range(8):
                if hall.many() < 100:
                    hall.make(*lively.making(hall.many()))
                hall.ask(*lively.asking(hall.many()))
                self.lets(hall.book, hall.keep())

    def test_put_together_by_hand(self):
        for seed, book in enumerate(books(60) + [Lively(seed).book() for seed in range(60)]):
            maker = KeptMaker(book, seed)
            for many in (0, 1, 2, 5, 9):
                self.lets(book, maker.kept(many))
            for kept in maker.each_stand():
                self.lets(book, kept)

    def test_whatever_thing(self):
        for thing in ODD:
            if thing != ():
                self.shuts(OVERS, thing)
            self.shuts(OVERS, (thing,))
            self.shuts(OVERS, (new(), thing))
            self.shuts(OVERS, (("count", thing, (NONE, NONE)),))
            self.shuts(OVERS, ((thing, ("new",), (NONE, NONE)),))
            self.shuts(OVERS, (("count", ("new",), thing),))
            self.shuts(OVERS, (("count", ("new",), (thing, NONE)),))
            if thing is not None:
                self.shuts(OVERS, (("count", ("stands", 1, (), thing), (NONE, NONE)),))
        self.lets(OVERS, ())
        self.shuts(OVERS, [])

    def test_something_else_at_each_place(self):
        others = (None, True, False, 0, 1, 2, 3, 4, 5, -1, 10 ** 30, "", "over", "count", "main", "none", "any", (), [], {},
                  NONE, GO, ("leave",), ("end", NONE), ("fault", "w", NONE), ("fault", "any", NONE), ("end", giver(4)), giver(3),
                  giver(4), giver(True), giver(-1), number(True), number(10 ** 30), ("new",), ("ended",), ("stands", 1, (), None),
                  ("stands", 1, (), 0), ("number", "1"), ("go", NONE), ("end",), ("leave", NONE))
        let = shut = 0
        for book, kept in (
            (OVERS, (("count", ("stands", 1, (), None), (number(1), giver(1))), over(0), ("over", ("ended",), ()), new())),
            (LASTS, (("main", ("stands", 1, (("leave",), ("end", giver(1))), None), (NONE, NONE)),) * 2),
            (LASTS, (("main", ("stands", 1, (("fault", "w", number(1)), GO), None), (NONE, NONE)),)),
            ((NESTED,), (("main", ("stands", 4, (GO, ("leave",)), 1), (NONE, NONE)), ("main", ("new",), (NONE, NONE)))),
        ):
            self.lets(book, kept)
            for path in paths_in(kept):
                for thing in others:
                    if self.alike(book, changed_at(kept, path, thing)):
                        let += 1
                    else:
                        shut += 1
                part = part_at(kept, path)
                if isinstance(part, tuple):
                    self.shuts(book, changed_at(kept, path, list(part)))
                    self.shuts(book, changed_at(kept, path, part + (None,)))
                    self.alike(book, changed_at(kept, path, part[:-1]))
                elif isinstance(part, int):
                    self.shuts(book, changed_at(kept, path, str(part)))
                    self.shuts(book, changed_at(kept, path, bool(part)))
        self.assertGreater(let, 100)
        self.assertGreater(shut, 2000)

    def test_names(self):
        for name, there in (("count", True), ("over", True), ("coun", False), ("", False), (None, False), (["count"], False)):
            self.assertIs(self.alike(OVERS, ((name, ("ended",), ()),)), there, name)

    def test_stand_numbers(self):
        book = read_book("rule main()\n x = give 1\n x = on x\n x = give 2")
        other = ("main", ("new",), (NONE,))
        for n, inner, there in ((0, None, False), (1, None, True), (2, None, False), (3, None, True), (4, None, False),
                                (2, 1, True), (1, 1, False), (3, 1, False), (2, 2, False), (2, -1, False), (2, True, False),
                                (2, False, False), (True, None, False), (-1, None, False), ("1", None, False)):
            self.assertIs(self.alike(book, (("main", ("stands", n, (), inner), (NONE,)), other)), there, (n, inner))
        self.shuts(read_book("rule main()\n end 1"), (("main", ("stands", 1, (), None), ()),))
        self.shuts(read_book("rule main()\n end 1"), (("main", ("stands", 0, (), None), ()),))

    def test_pendings(self):
        for pendings, there in (((GO, GO), True), ((("leave",), ("leave",)), True), ((), False), ((GO,), False), ((GO,) * 3, False),
                                ((("end", NONE), ("fault", "w", number(1))), True), ([GO, GO], False), ((GO, list(GO)), False),
                                ((GO, ("fault", "any", NONE)), False), ((GO, ("end", giver(0))), True),
                                ((GO, ("end", giver(1))), False), ((("fault", "w", giver(1)), GO), False),
                                ((GO, ("stop",)), False), ((GO, ("close",)), False), ((GO, ()), False), ((GO, None), False)):
            self.assertIs(self.alike(LASTS, (("main", ("stands", 1, pendings, None), (NONE, NONE)),)), there, pendings)

    def test_leave_only_for_a_try_that_stands_in_a_while(self):
        for text, pendings, there in (
            (" try\n  note 1\n last\n  x = give 1", (("leave",),), False),
            (" while 1\n  try\n   note 1\n  last\n   x = give 1", (("leave",),), True),
            (" try\n  note 1\n last\n  while 1\n   x = give 1", (("leave",),), False),
            (" try\n  note 1\n last\n  while 1\n   try\n    note 1\n   last\n    x = give 1", (GO, ("leave",)), True),
            (" try\n  note 1\n last\n  while 1\n   try\n    note 1\n   last\n    x = give 1", (("leave",), GO), False),
        ):
            book = read_book(f"rule main()\n{text}")
            self.assertIs(self.alike(book, (("main", ("stands", 1, pendings, None), (NONE,)),)), there, (text, pendings))
            self.lets(book, (("main", ("stands", 1, (GO,) * len(pendings), None), (NONE,)),))

    def test_pendings_of_catches_and_blocks_are_none(self):
        book = read_book("rule main()\n try\n  x = give 1\n catch w y\n  x = give 2\n last\n  x = give 3")
        for n in (1, 2, 3):
            for pendings in ((), (GO,)):
                there = (n == 3) == (pendings == (GO,))
                self.assertIs(self.alike(book, (("main", ("stands", n, pendings, None), (NONE, NONE)),)), there)

    def test_worths(self):
        for state, worths, there in (
            (("new",), (NONE, NONE), True), (("new",), (number(1), giver(0)), True), (("new",), (NONE,), False),
            (("new",), (), False), (("new",), (NONE,) * 3, False), (("new",), [NONE, NONE], False), (("ended",), (), True),
            (("ended",), (NONE, NONE), False), (("ended",), [], False), (("ended",), None, False), (("ended",), (NONE,), False),
            (("stands", 1, (), None), (NONE, NONE), True), (("stands", 1, (), None), (), False),
            (("new",), (giver(1), NONE), False), (("new",), (number(10 ** 30), NONE), False), (("new",), (number(True), NONE), False),
        ):
            self.assertIs(self.alike(OVERS, (("count", state, worths),)), there, (state, worths))

    def test_a_hundred_givers_and_one_more(self):
        self.lets(OVERS, (new(),) * 100)
        self.shuts(OVERS, (new(),) * 101)
        self.lets(OVERS, (("over", ("ended",), ()),) * 100)
        self.shuts(OVERS, (("over", ("ended",), ()),) * 101)
        self.lets(OVERS, (new(),) + tuple(over(k) for k in range(99)))
        self.shuts(OVERS, (new(),) + tuple(over(k) for k in range(100)))

    def test_rings_from_inner_to_inner(self):
        for many in (1, 2, 3, 50, 100):
            chain = tuple(over(k + 1) for k in range(many - 1))
            self.lets(OVERS, chain + (new(),))
            for back in {0, many // 2, many - 1}:
                self.shuts(OVERS, chain + (over(back),))
        # Ones whose ways lead to a ring, and ones whose ways don't.
        self.shuts(OVERS, (new(), over(0), over(3), over(4), over(3)))
        self.lets(OVERS, (new(), over(0), over(0), over(1), over(3)))

    def test_numbers_of_givers_that_are_not_there(self):
        for g, there in ((0, True), (1, False), (2, False), (99, False), (-1, False)):
            self.assertIs(self.alike(OVERS, (new(), ("over", ("stands", 1, (), g), (NONE, NONE)))), there)
        self.assertIs(self.alike(OVERS, (over(1), new())), True)
        self.assertIs(self.alike(OVERS, (over(2), new())), False)


class RefusalTest(unittest.TestCase):
    def test_no_kept(self):
        for thing in ODD + [[new()], (list(new()),), (over(0),), (new(),) * 101]:
            if thing != ():
                self.assertEqual(outcome(tree_from, OVERS, thing, 300), NoKept, thing)
                self.assertEqual(outcome(code_from, OVERS, codes_of(OVERS), thing, 300), NoKept, thing)

    def test_of_whatever_thing_each(self):
        codes = codes_of(OVERS)
        for thing in ODD:
            self.assertEqual(outcome(tree_from, thing, (), 300), NoBook)
            self.assertEqual(outcome(code_from, thing, codes, (), 300), NoBook)
            self.assertEqual(outcome(code_from, OVERS, thing, (), 300), NoCode)
        for thing in (None, True, False, 0, -1, 301, "300", (300,), [300], 10 ** 39, {}):
            self.assertEqual(outcome(tree_from, OVERS, (), thing), NoMost, thing)
            self.assertEqual(outcome(code_from, OVERS, codes, (), thing), NoMost, thing)

    def test_the_one_named_first_is_told(self):
        codes = codes_of(OVERS)
        for book, kept, most, error in ((None, None, None, NoBook), (None, None, 300, NoBook), (None, (), 0, NoBook),
                                        (OVERS, None, 0, NoMost), (OVERS, (), 0, NoMost), (OVERS, None, 300, NoKept)):
            self.assertEqual(outcome(tree_from, book, kept, most), error)
            self.assertEqual(outcome(code_from, book, codes, kept, most), error)
            if error != NoKept:
                self.assertEqual(outcome(code_from, book, None, kept, most), error)
        for code in (None, codes[::-1], codes[:1], list(codes)):
            for kept in (None, (), (over(0),), (new(),)):
                self.assertEqual(outcome(code_from, OVERS, code, kept, 300), NoCode)

    def test_edges_of_most(self):
        for most in (1, 300):
            self.assertIs(type(tree_from(OVERS, (new(),), most)), TreeHall)
            self.assertIs(type(code_from(OVERS, codes_of(OVERS), (new(),), most)), CodeHall)
        for hall in froms(OVERS, (new(), over(0)), 1):
            self.assertEqual(hall.ask(1, SEND), STOPPED)
        for hall in froms(OVERS, (new(), over(0)), 2):
            self.assertEqual(hall.ask(1, SEND), given(2))

    def test_methods_of_halls_taken_up_refuse(self):
        for hall in froms(OVERS, (new(),) * 100):
            self.assertEqual(outcome(hall.make, "count", (NONE,)), Full)
            self.assertEqual(outcome(hall.make, "count", (giver(100),)), NoWorth)
        for hall in froms(OVERS, (new(),) * 99):
            self.assertEqual(hall.make("over", (giver(98),)), 99)


class GoOnTest(unittest.TestCase):
    """What is to come by hand of halls that are taken up, by either kind."""

    def taken(self, book, kept, asks, answers, notes=None):
        """Asked so, each hall answers so; tells the walker's."""
        halls = froms(book, kept)
        for hall in halls:
            self.assertEqual(hall.keep(), kept)
            self.assertEqual((hall.record(), hall.steps(), hall.hops(), hall.many()), ((), 0, 0, len(kept)))
            self.assertEqual([hall.ask(k, how) for k, how in asks], answers)
            self.assertEqual(told(hall), told(halls[0]))
            self.assertTrue(lets_record(book, kept, hall.record()))
            if notes is not None:
                self.assertEqual(note_numbers(hall), notes)
        return halls[0]

    def test_what_is_to_come_behind_lasts(self):
        for pendings, answer, notes in (
            ((GO, GO), given(3), [4, 5, 6, 1, 2]),
            ((GO, ("end", number(9))), ended(9), [4]),
            ((("end", number(9)), GO), ended(9), [4, 5]),
            ((("end", number(9)), ("end", number(10))), ended(10), [4]),
            ((("fault", "w", number(9)), ("fault", "v", number(10))), fault("v", 10), [4]),
            ((("fault", "w", number(9)), GO), fault("w", 9), [4, 5]),
            ((GO, ("leave",)), ended(8), [4, 7]),
            ((("leave",), GO), ended(8), [4, 5, 7]),
            ((("end", number(9)), ("leave",)), ended(8), [4, 7]),
            ((("leave",), ("fault", "w", NONE)), fault("w"), [4]),
        ):
            kept = (("main", ("stands", 1, pendings, None), (NONE, NONE)),)
            self.taken(LASTS, kept, [(0, SEND)], [answer], notes)

    def test_a_fault_at_a_stand_in_lasts(self):
        for pendings in ((GO, GO), (("end", number(1)), ("leave",))):
            kept = (("main", ("stands", 1, pendings, None), (NONE, NONE)),)
            self.taken(LASTS, kept, [(0, fault("w", 5))], [fault("w", 5)], [])
            self.taken(LASTS, kept, [(0, CLOSE)], [CLOSED], [])

    def test_pendings_further_out_than_a_catch_stay(self):
        book = read_book("rule main()\n try\n  note 1\n last\n  try\n   try\n    note 2\n   last\n    x = give 3\n  catch any y\n   note y\n  note 4\n note 5")
        for pending, answer, notes in ((GO, ended(), [7, 4, 5]), (("end", number(9)), ended(9), [7, 4]),
                                       (("fault", "w", number(9)), fault("w", 9), [7, 4])):
            for inner in (GO, ("end", number(1)), ("fault", "v", NONE)):
                kept = (("main", ("stands", 1, (pending, inner), None), (NONE, NONE)),)
                self.taken(book, kept, [(0, fault("w", 7))], [answer], notes)

    def test_worths_of_a_new_one(self):
        """A new giver's other variables have what was kept of them."""
        book = read_book("rule main(a)\n note a\n note b\n b = give c")
        hall = self.taken(book, (("main", ("new",), (number(1), number(2), number(3))),), [(0, SEND)], [given(3)], [1, 2])
        self.assertEqual(hall.worths(0), (number(1), number(2), number(3)))

    def test_handing_on_to_a_new_one(self):
        """No run leaves it so."""
        hall = self.taken(OVERS, (new(), over(0)), [(1, send(7)), (1, send(8))], [given(2), given(1)])
        self.assertEqual(hall.record()[:2], (("asked", 1, send(7)), ("begin", 0)))
        self.taken(OVERS, (new(), over(0)), [(1, fault("w", 4))], [fault("w", 4)])
        self.taken(OVERS, (new(), over(0)), [(1, CLOSE), (0, SEND)], [CLOSED, ended()])

    def test_handing_on_to_an_ended_one(self):
        gone = ("count", ("ended",), ())
        self.taken(OVERS, (gone, over(0)), [(1, send(7))], [ended()])
        self.taken(OVERS, (gone, over(0)), [(1, fault("w", 4))], [fault("w", 4)])
        self.taken(OVERS, (gone, over(0), over(1)), [(1, SEND), (2, SEND)], [ended(), ended()])

    def test_places_that_no_run_comes_to(self):
        book = read_book("rule main()\n end 1\n try\n  x = give 2\n  note x\n catch w y\n  x = give 3\n last\n  note 4\n end 5")
        at = ("main", ("stands", 1, (), None), (NONE, NONE))
        self.taken(book, (at,), [(0, send(6))], [ended(5)], [6, 4])
        self.taken(book, (at,), [(0, fault("w", 6)), (0, SEND)], [given(3), ended(5)], [4])
        self.taken(book, (at,), [(0, fault("v", 6))], [fault("v", 6)], [4])
        self.taken(book, (("main", ("stands", 2, (), None), (NONE, NONE)),), [(0, fault("w", 6))], [fault("w", 6)], [4])

    def test_an_on_in_the_midst_of_lasts(self):
        book = read_book("rule main(g)\n while 1\n  try\n   note 1\n  last\n   x = on g\n   note x\n end 2\nrule leaf()\n x = give 3\n end x")
        leaf = ("leaf", ("stands", 1, (), None), (NONE,))
        for pending, answer, notes in ((("end", number(9)), ended(9), [7]), (("fault", "w", number(9)), fault("w", 9), [7]),
                                       (("leave",), ended(2), [7])):
            kept = (("main", ("stands", 1, (pending,), 1), (giver(1), NONE)), leaf)
            self.taken(book, kept, [(0, send(7))], [answer], notes)

    def test_chains_of_a_hundred(self):
        kept = (("count", ("stands", 1, (), None), (number(3), NONE)),) + tuple(over(k) for k in range(99))
        hall = self.taken(OVERS, kept, [(99, SEND)] * 4, [given(2), given(1), ended(50), ended()])
        self.assertEqual(hall.state(0), ("ended",))

    def test_the_hops_of_halls_taken_up(self):
        """Handings on that stood then are links like others; the rows are without any at first."""
        kept = (("count", ("stands", 1, (), None), (number(9), NONE)),) + tuple(over(k) for k in range(4))
        for machine in (code_from(OVERS, sort(OVERS), kept, 300) for sort in SORTS):
            hops = [machine.hops()]
            for k in (4, 4, 3, 3, 4, 1, 0, 4):
                machine.ask(k, SEND)
                hops.append(machine.hops() - sum(hops))
            self.assertEqual(hops, [0, 5, 1, 4, 1, 1, 2, 1, 1])
            self.assertEqual(Hops(kept).follow(machine.record()).machine, machine.hops())
            before = machine.hops()
            # All end: links are no more.
            self.assertEqual(machine.ask(4, fault("w")), fault("w"))
            self.assertEqual(machine.ask(4, SEND), ended())
            self.assertEqual(machine.hops() - before, 1 + 1 + 4)
        walker = tree_from(OVERS, kept, 300)
        walker.ask(4, SEND)
        self.assertEqual(walker.hops(), 5)

    def test_at_whichever_row_of_the_stand(self):
        """A code may have several rows of a stand, and one that nothing else reaches."""
        book = read_book("rule main()\n end 1\n x = give 2\n note x")
        rows = (("end", (0,)), ("stand", (1,)), ("jump", 4), ("stand", (1,)), ("deed", (2,)), ("done",))
        hall = code_from(book, ((rows, ()),), (("main", ("stands", 1, (), None), (NONE,)),), 300)
        self.assertEqual((hall.ask(0, send(5)), note_numbers(hall)), (ended(), [5]))


class AlikeTest(unittest.TestCase):
    def test_by_turns(self):
        """A hall is taken up behind each ask, by either kind, beside one that goes on all the time."""
        kinds = [lambda book, kept, most: tree_from(book, kept, most)]
        kinds += [lambda book, kept, most, sort=sort: code_from(book, sort(book), kept, most) for sort in SORTS]
        for seed in range(2000, 2160):
            lively = Lively(seed)
            book, most = lively.book(), most_of(seed)
            whole_hall, hall = TreeHall(book, most), CodeHall(book, plain(book), most)
            for turn in range(12):
                if turn in (0, 1, 2, 7) and hall.many() < 100:
                    made = lively.making(hall.many())
                    self.assertEqual(hall.make(*made), whole_hall.make(*made))
                kept, rows, steps = hall.keep(), len(whole_hall.record()), whole_hall.steps()
                self.assertEqual(kept, whole_hall.keep())
                hall = kinds[(seed + 3 * turn) % 5](book, kept, most)
                self.assertEqual((hall.record(), hall.steps(), hall.hops(), hall.keep()), ((), 0, 0, kept))
                asked = lively.asking(hall.many())
                self.assertEqual(hall.ask(*asked), whole_hall.ask(*asked), seed)
                self.assertEqual(hall.record(), whole_hall.record()[rows:])
                self.assertEqual(hall.steps(), whole_hall.steps() - steps)
                self.assertTrue(lets_record(book, kept, hall.record()))
                for k in range(hall.many()):
                    self.assertEqual((hall.state(k), hall.worths(k), hall.chain(k)),
                                     (whole_hall.state(k), whole_hall.worths(k), whole_hall.chain(k)))

    def alike(self, book, kept, lively, asks, most=300):
        """Halls taken up from there, asked alike, tell the same; their records are let by."""
        before = copy.deepcopy(kept)
        halls = froms(book, kept, most)
        for _ in range(asks):
            asked = lively.asking(halls[0].many())
            answers = [hall.ask(*asked) for hall in halls]
            self.assertEqual(answers, answers[:1] * len(halls), (book, kept))
            for hall in halls[1:]:
                self.assertEqual(told(hall), told(halls[0]))
        record = halls[0].record()
        self.assertTrue(lets_record(book, kept, record), (kept, record))
        hops = Hops(kept).follow(record)
        self.assertEqual([hall.hops() for hall in halls], [hops.walker] + [hops.machine] * len(SORTS))
        self.assertLessEqual(hops.machine, hops.bound())
        leans = [(k, hall.state(k)[2]) for hall in halls[:1] for k in range(hall.many()) if hall.state(k)[0] == "hands on"]
        self.assertEqual(leans_in(book, kept, record), leans)
        for k in range(halls[0].many()):
            if halls[0].state(k) in (("new",), ("ended",)):
                self.assertEqual(open_in(book, kept, record, k), [])
        self.assertEqual(kept, before)

    def test_put_together_by_hand(self):
        for seed in range(70):
            lively = Lively(seed)
            book = lively.book()
            maker = KeptMaker(book, seed)
            self.alike(book, maker.kept(1 + seed % 7), lively, 6, most_of(seed))
            for kept in maker.each_stand():
                self.alike(book, kept, lively, 3)

    def test_at_every_stand_with_whatever_is_to_come(self):
        for seed, book in enumerate(books(12) + [(RULE,), (NESTED,)] * 12):
            lively = Lively(seed)
            for kept in KeptMaker(book, seed).each_stand():
                self.alike(book, kept, lively, 4)


class OwnTest(unittest.TestCase):
    def test_several_from_one_kept_tuple(self):
        hall = TreeHall(OVERS, 300)
        hall.make("count", (number(5),))
        hall.make("over", (giver(0),))
        hall.ask(1, SEND)
        kept = hall.keep()
        before = copy.deepcopy(kept)
        halls = froms(OVERS, kept) + froms(OVERS, kept)
        for at, one in enumerate(halls):
            self.assertEqual(one.keep(), before)
            for n in range(at % 4):
                self.assertEqual(one.ask(1, SEND), given(4 - n))
            self.assertEqual(one.make("over", (giver(1),)), 2)
        self.assertEqual([one.steps() for one in halls], [3 * (at % 4) for at in range(len(halls))])
        self.assertEqual(hall.ask(1, SEND), given(4))
        self.assertEqual((kept, hall.many()), (before, 2))
        self.assertEqual(froms(OVERS, kept)[1].ask(0, SEND), given(4))

    def test_both_keep_alike(self):
        for seed in range(60):
            book = Lively(seed).book()
            kept = KeptMaker(book, seed).kept(6)
            for hall in froms(book, kept):
                self.assertEqual(hall.keep(), kept)
                self.assertIs(type(hall.keep()), tuple)

    def test_what_was_told_stays(self):
        kept = (("count", ("stands", 1, (), None), (number(3), NONE)), over(0))
        for hall in froms(OVERS, kept):
            first = (hall.keep(), hall.record(), hall.chain(1))
            hall.ask(1, SEND)
            hall.ask(0, CLOSE)
            self.assertEqual(first, (kept, (), [1, 0]))

    def test_looks_change_nothing(self):
        thing = [[list(new())], {"a": (new(),)}]
        before = copy.deepcopy(thing)
        self.assertIs(is_kept(OVERS, thing), False)
        self.assertEqual(outcome(tree_from, OVERS, thing, 300), NoKept)
        self.assertEqual(outcome(code_from, OVERS, other(OVERS), thing, 300), NoKept)
        self.assertEqual(thing, before)


if __name__ == "__main__":
    unittest.main()
