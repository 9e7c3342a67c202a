"""[39], with [15], [18], [19], [20], [35], [37] and [38]."""

import random
import unittest

from askorhold.booktexts import show_book, show_call, show_result
from askorhold.desk import Desk
from askorhold.errors import AskError, Cannot, Contrary, Endless, NoCommand, NoTree, Nothing, NothingToAsk, TooMany, Wrong
from askorhold.facts import fact_of
from askorhold.holder import Holder
from askorhold.plans import price_of
from askorhold.reader import read_function, read_program
from askorhold.session import Session
from askorhold.shower import show_function, show_program
from askorhold.skeletons import skeleton_of, web_in
from machines import shown_by, state_of, told
from programs import falling_runs
from searches import snapshot
from things import ANY, deep

TWICE = "fun twice ( x ) = x + one ( x ) ; fun one ( x ) = let y = x in y + 1 ;"
BOTH = "fun both ( x ) = [ twice ( x ) , one ( x ) , twice ( 0 ) ] ; fun twice ( x ) = x + one ( x ) ; fun one ( x ) = x + 1 ;"
FIB = "fun fib ( n ) = if n < 2 then n else fib ( n - 1 ) + fib ( n - 2 ) ;"
LINES = ("question", "book", "program", "spent", "held", "right", "wrong", "undo")
NUMBERED = ("seek", "open", "put", "take", "throw", "know", "rewind", "show", "wish", "plan")


def shot(desk):
    """All that a desk tells without being changed."""
    holder = desk.holder()
    return snapshot(desk.session()), None if holder is None else repr((state_of(holder), shown_by(holder)))


class DeskTest(unittest.TestCase):
    def led(self, text, *lines):
        desk = Desk(text)
        for line in lines:
            desk.execute(line)
        return desk

    def error_of(self, kind, desk, line):
        """The error of a line, which changes nothing."""
        before = shot(desk)
        with self.assertRaises(kind) as caught:
            desk.execute(line)
        self.assertIs(type(caught.exception), kind)
        self.assertEqual(shot(desk), before)
        return caught.exception

    def no_command(self, desk, line):
        error = self.error_of(NoCommand, desk, line)
        self.assertIs(error.line, line)

    def tells(self, desk, *pairs):
        for line, wanted in pairs:
            self.assertEqual(desk.execute(line), wanted, line)


class BeginTest(DeskTest):
    def test_what_it_keeps_at_first(self):
        desk = Desk(BOTH)
        session = desk.session()
        self.assertIsInstance(session, Session)
        self.assertEqual([session.program(), session.facts(), session.book(), desk.holder()], [read_program(BOTH), (), (), None])

    def test_errors_of_the_text(self):
        for text, place in (("", 0), ("fun f ( ) = x ;", 6), ("fun f ( ) = 1", 6), ("fun if ( ) = 1 ;", 1)):
            with self.assertRaises(NoTree) as caught:
                Desk(text)
            self.assertEqual(caught.exception.place, place)
        with self.assertRaises(TooMany) as caught:
            Desk("fun f ( x ) = " + " + ".join("x" for _ in range(13)) + " ;")
        self.assertEqual(caught.exception.most, 12)
        for thing in [thing for thing in ANY if type(thing) is not str] + [Desk(FIB), read_program(FIB), [FIB], (FIB,)]:
            with self.assertRaises(Wrong) as caught:
                Desk(thing)
            self.assertEqual(caught.exception.place, 0)

    def test_the_examples(self):
        desk = Desk(TWICE)
        self.tells(
            desk, ("question", "none"), ("run twice ( 2 )", "5"), ("book", "0 : one ( 2 ) = 3 <\n1 : twice ( 2 ) = 5 < 0"),
            ("seek 1", "promise 2"),
            ("question", "ask 0 : one ( 2 ) = 3"), ("wrong", "blamed 0 : one ( 2 )"), ("spent", "spent 2 left 0"), ("open 2", "open 2"),
            ("put 0", "held 0 size 1 room 2 known"), ("wish 1", "5"), ("plan 1", "price 2"),
            ("fun twice ( x ) = one ( x ) + one ( 0 ) ;", "edited twice"), ("run twice ( 2 )", "4"),
            ("held", "held 0 size 1 room 2 known"), ("show 0", "3"),
        )
        self.no_command(desk, "put 01")
        self.no_command(desk, "")
        self.assertEqual(self.error_of(Cannot, desk, "put 0").deed, ("put", 0))
        self.tells(desk, ("undo", "undone"))
        self.error_of(Nothing, desk, "held")
        self.assertEqual([desk.holder(), desk.session().facts()[0][0]], [None, ("twice", (2,))])


class SessionLinesTest(DeskTest):
    def test_each_line(self):
        desk = Desk(BOTH)
        book = "0 : one ( 2 ) = 3 <\n1 : twice ( 2 ) = 5 < 0\n2 : one ( 0 ) = 1 <\n3 : twice ( 0 ) = 1 < 2\n4 : both ( 2 ) = [ 5 , 3 , 1 ] < 0 1 3"
        program = "\n".join(part.strip() + " ;" for part in BOTH.split(";")[:-1])
        self.tells(
            desk, ("book", "none"), ("program", program), ("question", "none"), ("spent", "spent 0 left 0"),
            ("run both ( 2 )", "[ 5 , 3 , 1 ]"),
            ("book", book), ("question", "none"), ("spent", "spent 0 left 0"), ("seek 4", "promise 3"),
            ("question", "ask 0 : one ( 2 ) = 3"),
            ("spent", "spent 0 left 3"), ("right", "ask 3 : twice ( 0 ) = 1"), ("question", "ask 3 : twice ( 0 ) = 1"),
            ("spent", "spent 1 left 2"),
            ("right", "ask 1 : twice ( 2 ) = 5"), ("right", "blamed 4 : both ( 2 )"), ("question", "blamed 4 : both ( 2 )"),
            ("spent", "spent 3 left 0"),
            ("undo", "undone"), ("wrong", "blamed 1 : twice ( 2 )"), ("undo", "undone"), ("undo", "undone"),
            ("wrong", "ask 2 : one ( 0 ) = 1"),
            ("wrong", "blamed 2 : one ( 0 )"), ("spent", "spent 3 left 0"), ("book", book),
        )

    def test_against_a_session(self):
        # Each line does what the call of the Session does.
        for seed, (program, book) in enumerate(falling_runs(50, 15, 4, 25)):
            desk, session = Desk(show_program(program)), Session(program)
            chance = random.Random(seed)
            for _ in range(25):
                index = chance.randrange(len(book) + 1)
                kind = chance.choice(("run", "edit", "seek", "seek", "right", "wrong", "right", "wrong", "undo"))
                call = book[min(index, len(book) - 1)][0]
                line, name, arguments = {
                    "run": ("run " + show_call(call), "run", call),
                    "edit": (show_function(program[seed % 4]), "edit", (program[seed % 4],)),
                    "seek": (f"seek {index}", "seek", (index,)), "right": ("right", "answer", (True,)),
                    "wrong": ("wrong", "answer", (False,)),
                    "undo": ("undo", "undo", ()),
                }[kind]
                ended, wanted = told(desk, "execute", line), told(session, name, *arguments)
                if wanted[0] == "returned":
                    self.assertEqual(ended[0], "returned")
                    self.assertEqual(ended[1], self.text_of(kind, session, wanted[1], program[seed % 4][0]))
                else:
                    self.assertEqual(repr(ended), repr(wanted))
                self.assertEqual(snapshot(desk.session()), snapshot(session))
                self.assertEqual(desk.execute("spent"), f"spent {session.spent()} left {session.left()}")
                self.assertEqual(desk.execute("book"), show_book(session.book()) if session.book() else "none")
                self.assertEqual(desk.execute("program"), show_program(session.program()))

    def text_of(self, kind, session, result, name):
        if kind == "run":
            return show_result(result)
        if kind == "edit":
            return f"edited {name}"
        if kind == "seek":
            return f"promise {result}"
        if kind == "undo":
            return "undone"
        x, blamed = session.question(), session.blamed()
        if x is not None:
            return f"ask {x} : {show_call(session.book()[x][0])} = {show_result(session.book()[x][1])}"
        return f"blamed {blamed} : {show_call(session.book()[blamed][0])}"

    def test_edits(self):
        desk = Desk(FIB)
        self.tells(desk, ("fun new ( a , b ) = a + b ;", "edited new"), ("run new ( 3 , -4 )", "-1"), ("fun fib ( n ) = true ;", "edited fib"))
        self.tells(desk, ("book", "none"), ("run fib ( [ ] )", "true"), ("run fab ( )", "fault count"))
        self.tells(desk, ("run new ( [ 1 ] , [ [ ] ] )", "[ 1 , [ ] ]"))
        self.assertEqual(desk.session().program(), read_program("fun fib ( n ) = true ; fun new ( a , b ) = a + b ;"))

    def test_errors_of_what_is_called(self):
        desk = Desk("fun f ( n ) = g ( n ) ; fun g ( n ) = f ( n ) ; fun up ( n ) = up ( n + 1 ) ; fun one ( ) = 1 ;")
        self.assertEqual(self.error_of(Endless, desk, "run f ( 1 )").call, ("f", (1,)))
        self.assertEqual(self.error_of(TooMany, desk, "run up ( 1 )").most, 60)
        self.assertEqual(self.error_of(Wrong, desk, "seek 0").place, 0)
        self.error_of(Nothing, desk, "undo")
        self.error_of(NothingToAsk, desk, "right")
        self.error_of(NothingToAsk, desk, "wrong")
        desk.execute("run one ( )")
        for index in (1, 2, 10 ** 39):
            self.assertEqual(self.error_of(Wrong, desk, f"seek {index}").place, 0)
        self.error_of(TooMany, desk, "run up ( 1 )")
        self.tells(desk, ("book", "0 : one ( ) = 1 <"), ("seek 0", "promise 0"), ("question", "blamed 0 : one ( )"), ("spent", "spent 0 left 0"))
        self.error_of(NothingToAsk, desk, "right")
        desk = self.led(FIB, "run fib ( 2 )", "seek 2", "right")
        known = [at for at in (0, 1) if fact_of(desk.session().facts(), *desk.session().book()[at][:2])]
        self.assertEqual(self.error_of(Contrary, desk, f"seek {known[0]}").call, ("fib", (1 - known[0],)))

    def test_undo(self):
        desk = self.led(BOTH, "run both ( 2 )", "seek 4", "wrong", "fun one ( x ) = x ;", "run one ( 1 )")
        for many in range(5):
            self.assertEqual(desk.execute("undo"), "undone")
        self.error_of(Nothing, desk, "undo")
        self.tells(desk, ("book", "none"), ("question", "none"))


class HolderLinesTest(DeskTest):
    def test_each_line(self):
        desk = self.led(FIB, "run fib ( 4 )")
        self.tells(
            desk, ("open 3", "open 3"), ("held", "held size 0 room 3 known"), ("put 0", "held 0 size 1 room 3 known"),
            ("put 1", "held 0 1 size 2 room 3 known"),
            ("put 2", "held 0 1 2 size 3 room 3 known"), ("show 3", "2"), ("plan 3", "price 3"), ("take 1", "held 0 2 size 2 room 3 known"),
            ("put 3", "held 0 2 3 size 3 room 3 known"), ("plan 4", "price 3"), ("show 4", "3"),
            ("rewind 2", "held 0 1 2 size 3 room 3 known"),
            ("rewind 0", "held 0 1 2 size 3 room 3 known"), ("throw 2", "held 0 1 size 2 room 3 known"),
            ("know 1", "held 0 size 1 room 3 known 1"),
            ("wish 4", "3"), ("know 2", "held 0 size 1 room 3 known 1 2"), ("know 0", "held size 0 room 3 known 0 1 2"), ("wish 3", "2"),
            ("wish 0", "1"),
            ("held", "held size 0 room 3 known 0 1 2"), ("open 0", "open 0"), ("held", "held size 0 room 0 known"),
        )
        self.assertEqual(desk.holder().room(), 0)

    def test_against_a_holder(self):
        for seed, (program, book) in enumerate(falling_runs(51, 15, 4, 14)):
            skeleton = skeleton_of(program, book)
            desk = self.led(show_program(program), "run " + show_call(book[-1][0]), "open 40")
            holder = Holder(program, skeleton, 40)
            chance = random.Random(seed)
            for _ in range(60):
                index = chance.randrange(len(book) + 1)
                word = chance.choice(("put", "put", "put", "take", "throw", "know", "rewind", "show", "wish", "plan"))
                name, arguments = ("do", ((word, index),)) if word in ("put", "take", "throw") else (word, (index,))
                ended, wanted = told(desk, "execute", f"{word} {index}"), told(holder, name, *arguments)
                if wanted[0] != "returned":
                    self.assertEqual(repr(ended), repr(wanted))
                elif word in ("show", "wish"):
                    self.assertEqual(ended, ("returned", show_result(wanted[1])))
                elif word == "plan":
                    self.assertEqual(ended, ("returned", f"price {price_of(web_in(skeleton), wanted[1])}"))
                else:
                    self.assertEqual(ended, ("returned", desk.execute("held")))
                self.assertEqual(repr((state_of(desk.holder()), shown_by(desk.holder()))), repr((state_of(holder), shown_by(holder))))
                words = ["held", *holder.held(), "size", holder.size(), "room", 40, "known", *holder.known()]
                self.assertEqual(desk.execute("held"), " ".join(str(part) for part in words))

    def test_nothing_without_a_book_or_a_holder(self):
        desk = Desk(FIB)
        for word in ("put", "take", "throw", "know", "rewind", "show", "wish", "plan", "open"):
            for index in ("0", "7", "9" * 40):
                self.error_of(Nothing, desk, f"{word} {index}")
        self.error_of(Nothing, desk, "held")
        desk.execute("run fib ( 2 )")
        for word in ("put", "take", "throw", "know", "rewind", "show", "wish", "plan"):
            self.error_of(Nothing, desk, word + " 0")
        self.error_of(Nothing, desk, "held")
        self.tells(desk, ("open 3", "open 3"), ("fun fib ( n ) = n ;", "edited fib"))
        # The Holder goes on without a BOOK, but no other one is opened.
        self.error_of(Nothing, desk, "open 3")
        self.tells(desk, ("put 0", "held 0 size 1 room 3 known"))

    def test_errors_of_what_is_called(self):
        desk = self.led(FIB, "run fib ( 13 )", "open 2", "put 0")
        for word in ("put", "take", "throw", "know", "show", "wish", "plan"):
            for index in (14, 99, 10 ** 39):
                self.assertEqual(self.error_of(Wrong, desk, f"{word} {index}").place, 0)
        for line, deed in (
            ("put 0", ("put", 0)), ("put 2", ("put", 2)), ("take 1", ("take", 1)), ("throw 1", ("throw", 1)), ("know 2", ("know", 2)),
            ("show 2", ("show", 2)), ("plan 0", ("plan", 0)), ("plan 3", ("plan", 3)), ("wish 4", ("wish", 4)),
        ):
            self.assertEqual(self.error_of(Cannot, desk, line).deed, deed)
        self.assertEqual(self.error_of(TooMany, desk, "wish 13").most, 10)
        self.error_of(Nothing, desk, "rewind 2")
        self.error_of(Nothing, desk, "rewind " + "9" * 40)

    def test_a_run_leads_the_holder_on(self):
        desk = self.led(FIB + " fun two ( ) = fib ( 2 ) ;", "run fib ( 4 )", "open 3", "put 0", "put 1", "put 2", "know 1")
        self.tells(desk, ("run two ( )", "1"), ("held", "held 0 2 size 2 room 3 known 1"))
        self.assertEqual([desk.holder().skeleton()[3][0], desk.holder().tape(), desk.holder().program()], [("two", ()), (), desk.session().program()])
        self.tells(desk, ("fun two ( ) = 5 ;", "edited two"), ("held", "held 0 2 size 2 room 3 known 1"), ("run fib ( 3 )", "2"))
        self.tells(desk, ("held", "held 0 2 size 2 room 3 known 1"), ("show 3", "2"), ("fun fib ( n ) = 1 ;", "edited fib"), ("show 3", "2"))
        self.tells(desk, ("run fib ( 3 )", "1"), ("held", "held size 0 room 3 known"), ("show 0", "1"))
        self.assertEqual(desk.holder().program(), desk.session().program())

    def test_a_run_that_raises_leaves_the_holder(self):
        desk = self.led(FIB + " fun up ( n ) = up ( n + 1 ) ;", "run fib ( 4 )", "open 3", "put 0")
        self.error_of(TooMany, desk, "run up ( 1 )")
        self.no_command(desk, "run fib ( 3")
        self.tells(desk, ("rewind 1", "held size 0 room 3 known"))

    def test_undo_leaves_no_holder(self):
        desk = self.led(FIB, "run fib ( 4 )", "open 3", "put 0")
        self.tells(desk, ("undo", "undone"))
        self.error_of(Nothing, desk, "held")
        self.assertEqual([desk.holder(), desk.session().book()], [None, ()])
        self.error_of(Nothing, desk, "undo")
        desk = self.led(FIB, "run fib ( 4 )", "open 3", "seek 4", "undo", "open 1")
        self.tells(desk, ("held", "held size 0 room 1 known"), ("question", "none"))

    def test_faults_and_lists(self):
        desk = self.led("fun f ( ) = [ g ( ) , [ ] , true ] ; fun g ( ) = [ 0 - 3 ] ; fun h ( ) = 1 / 0 ;", "run f ( )", "open 9")
        self.tells(desk, ("show 0", "[ -3 ]"), ("wish 1", "[ [ -3 ] , [ ] , true ]"), ("put 0", "held 0 size 2 room 9 known"))
        self.tells(desk, ("run h ( )", "fault zero"), ("show 0", "fault zero"), ("held", "held size 0 room 9 known"))


class LinesTest(DeskTest):
    def test_blanks_and_line_feeds(self):
        desk = self.led(FIB, "  run   fib \n ( 2 ) \n", "\nopen\n\n5 ", " put  0")
        self.tells(desk, (" held\n", "held 0 size 1 room 5 known"), ("\n seek \n 2", "promise 2"), ("   spent", "spent 0 left 2"))
        self.tells(desk, ("fun\nfib\n(\nn\n)\n=\nn\n;\n", "edited fib"), ("program   ", "fun fib ( n ) = n ;"))

    def test_lines_that_are_none(self):
        long = "1" * 41
        lines = [
            "", " ", "\n", " \n \n", "Held", "helds", "run", "run fib", "run fib ( 2", "run fib ( 2 ) 3", "run ( 2 )", "run fib ( n )",
            "run fib ( 02 )",
            "run fib ( -0 )", "run fib(2)", "run 2", "run if ( )", "run run ( )  1", "runs fib ( 2 )", "fun", "fun fib",
            "fun fib ( n ) = m ;",
            "fun fib ( n ) = n", "fun fib ( n ) = n ; fun f ( ) = 1 ;", "fun fib ( n ) = n ; ;", "funs", "undo 1", "undo undo", "a", "1",
            "0 put", "; ", ".",
            "open three", "open 3 3", "open -1", "open +1", "put 0 1", "put - 1", "put 1.0", "put 0x1", "know know", "put zero",
            "show true", "wish [ ]",
            "go 1", "take1", "tape", "tape 1", "known", "known 1", "know 0 1", "way 1", "way_to 1", "edit", "answer true", "blamed",
            "left", "facts", "twin",
            "run up ( " + "1" * 41 + " )", "run up ( " + "[ " * 101 + "] " * 101 + ")",
            "run up ( [ " + " , ".join("1" for _ in range(200)) + " ] )",
            "fun up ( n ) = " + "( " * 31 + "n" + " )" * 31 + " ;", "fun up ( n ) = " + " + ".join("n" for _ in range(13)) + " ;",
            "fun up ( n ) = " + long + " ;",
        ]
        for word in LINES:
            lines += [word + " 1", word + " 0", word + " " + word, word.upper(), word + ";", word + " ;"]
        for word in NUMBERED:
            rests = ("", "01", "00", "-1", "-0", "+1", long, "0" * 40, "1 1", "a", "1a", "1 ;", "I", "K", "1\t", "[ ]", "true")
            lines += [f"{word} {rest}" for rest in rests]
            lines += [word.upper() + " 1", "1 " + word, word + "s 1", word + "1"]
        for desk in (Desk(FIB), self.led(FIB, "run fib ( 4 )", "open 3", "put 0", "seek 4")):
            before = shot(desk)
            for line in lines:
                with self.assertRaises(NoCommand, msg=line) as caught:
                    desk.execute(line)
                self.assertIs(caught.exception.line, line)
            self.assertEqual(shot(desk), before)

    def test_what_can_just_be_read(self):
        desk = Desk("fun up ( n ) = n ;")
        self.tells(
            desk, ("run up ( " + "9" * 40 + " )", "9" * 40),
            ("run up ( " + ("[ " * 100 + "] " * 100).strip() + " )", ("[ " * 100 + "] " * 100).strip()),
            ("run up ( [ " + " , ".join("1" for _ in range(199)) + " ] )", "[ " + " , ".join("1" for _ in range(199)) + " ]"),
            ("fun up ( n ) = " + " + ".join("n" for _ in range(12)) + " ;", "edited up"), ("run up ( 1 )", "12"),
            ("open " + "9" * 40, "open " + "9" * 40),
        )

    def test_any_value(self):
        desk = self.led(FIB, "run fib ( 2 )")
        for thing in ANY + (desk, desk.session(), ["book"], ("book",), deep(19, list)):
            if type(thing) is str:
                self.no_command(desk, thing)
            else:
                self.assertEqual(self.error_of(Wrong, desk, thing).place, 0)

    def test_three_thousand_signs(self):
        desk = Desk(FIB)
        for line in ("x" * 3000, " " * 3000, "run fib ( " + "[ " * 1490 + ")", "fun fib ( n ) = " + "( " * 1480, "put " + "1" * 2990, "fun " * 750):
            self.no_command(desk, line[:3000])


class IndependentTest(DeskTest):
    def test_the_session(self):
        desk = self.led(BOTH, "run both ( 2 )", "seek 4", "right")
        session, before = desk.session(), shot(desk)
        session.answer(False)
        session.edit(read_function("fun one ( x ) = x ;"))
        self.assertEqual(shot(desk), before)
        session.undo()
        session.undo()
        self.assertEqual(snapshot(session), before[0])
        # It was led by the same calls, so these can be taken back.
        for many in range(3):
            session.undo()
        self.assertRaises(Nothing, session.undo)
        self.assertEqual([session.book(), shot(desk)], [(), before])
        session = desk.session()
        desk.execute("undo")
        self.assertEqual(snapshot(session), before[0])
        self.assertNotEqual(snapshot(desk.session()), before[0])

    def test_the_holder(self):
        desk = self.led(FIB, "run fib ( 4 )", "open 3", "put 0", "put 1")
        holder, before = desk.holder(), shot(desk)
        self.assertIsInstance(holder, Holder)
        holder.do(("put", 2))
        holder.know(0)
        self.assertEqual(shot(desk), before)
        holder = desk.holder()
        desk.execute("rewind 2")
        self.assertEqual([holder.held(), desk.holder().held()], [(0, 1), ()])
        desk.execute("undo")
        self.assertEqual([holder.show(2), desk.holder()], [1, None])

    def test_errors_are_of_the_package(self):
        for kind in (Cannot, Contrary, Endless, NoCommand, NoTree, Nothing, NothingToAsk, TooMany, Wrong):
            self.assertTrue(issubclass(kind, AskError))
