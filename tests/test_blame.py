"""[22], with [13] and the guarantee [6]."""

import itertools
import unittest

from askorhold.blame import blame_below, is_blame_shown, is_to_blame, mended, to_blame, wanted
from askorhold.bodies import worked_out
from askorhold.books import book_of
from askorhold.errors import Endless, NoFunction, TooMany
from askorhold.forms import are_alike
from askorhold.meanings import right_notes, right_result, wrong_in
from askorhold.reader import read_function, read_program
from askorhold.trees import function_of
from programs import FIB, SHARED, Programs
from things import ANY

SHOWN = read_program(
    "fun twice ( x ) = x + one ( x ) ; fun one ( x ) = x + 1 ; fun both ( x ) = [ twice ( x ) , one ( x ) , twice ( 0 ) ] ;"
)
MEANT = read_program("fun twice ( x ) = x + x ; fun one ( x ) = x ; fun both ( x ) = [ twice ( x ) , one ( x ) , twice ( 0 ) ] ;")


def lots(many):
    for size in range(many + 1):
        yield from itertools.combinations(range(many), size)


def plain_to_blame(book, wrong):
    return tuple(index for index in wrong if not set(book[index][2]) & set(wrong))


def plain_below(book, wrong, index):
    """All that is come to from an index by callees that are wrong, and itself."""
    found = {index}
    for callee in book[index][2]:
        if callee in wrong:
            found |= plain_below(book, wrong, callee)
    return found


class ToBlameTest(unittest.TestCase):
    BOOKS = (
        book_of(SHARED, ("top", ()), 60), book_of(FIB, ("fib", (5,)), 60), book_of(SHOWN, ("both", (2,)), 60),
        book_of(FIB, ("fib", (0,)), 60),
    )

    def test_all_lots(self):
        for book in self.BOOKS:
            for wrong in lots(len(book)):
                blamed = to_blame(book, wrong)
                self.assertEqual(blamed, plain_to_blame(book, wrong))
                self.assertIsInstance(blamed, tuple)
                if wrong:
                    self.assertIn(wrong[0], blamed)
                for index in wrong:
                    below = blame_below(book, wrong, index)
                    self.assertEqual(below, tuple(at for at in blamed if at in plain_below(book, wrong, index)))
                    self.assertNotEqual(below, ())
                    self.assertIsInstance(below, tuple)

    def test_none_is_wrong(self):
        for book in self.BOOKS:
            self.assertEqual(to_blame(book, ()), ())

    def test_wrong_ones_that_are_not_come_to_by_wrong_ones(self):
        # e, c, d, a, b, top: c calls e; a calls c and d; b calls d; top calls c, a, b.
        book = self.BOOKS[0]
        self.assertEqual(to_blame(book, (0, 3, 5)), (0, 3))
        self.assertEqual(blame_below(book, (0, 3, 5), 5), (3,))
        self.assertEqual(blame_below(book, (0, 1, 3, 5), 5), (0,))
        self.assertEqual(blame_below(book, (0, 5), 5), (5,))
        self.assertEqual(blame_below(book, (0, 2, 4, 5), 5), (2,))
        self.assertEqual(blame_below(book, (0, 2, 4, 5), 2), (2,))
        self.assertEqual(blame_below(book, (0, 1, 2, 4, 5), 5), (0, 2))
        self.assertEqual(blame_below(book, (0, 1, 2, 4, 5), 4), (2,))


class IsToBlameTest(unittest.TestCase):
    def raises(self, error, field, told, do, *given):
        with self.assertRaises(error) as caught:
            do(*given)
        self.assertEqual(repr(getattr(caught.exception, field)), repr(told))

    def test_one_definition_alone_counts(self):
        self.assertIs(is_to_blame(SHOWN, MEANT, ("one", (2,)), 9), True)
        self.assertIs(is_to_blame(SHOWN, MEANT, ("twice", (2,)), 9), False)
        self.assertIs(is_to_blame(SHOWN, MEANT, ("both", (2,)), 9), False)
        self.assertEqual(wanted(SHOWN, MEANT, ("twice", (2,)), 9), (4, 4))
        self.assertEqual(wanted(SHOWN, MEANT, ("one", (2,)), 9), (3, 2))
        self.assertEqual(wanted(SHOWN, MEANT, ("both", (2,)), 9), ((4, 2, 0), (4, 2, 0)))
        self.assertEqual(wanted(MEANT, SHOWN, ("both", (2,)), 9), ((5, 3, 1), (5, 3, 1)))
        self.assertEqual(wanted(MEANT, SHOWN, ("twice", (2,)), 9), (4, 5))

    def test_calls_of_no_function(self):
        count = ("fault", "count")
        self.assertEqual(wanted(SHOWN, MEANT, ("there", (1,)), 9), (count, count))
        self.assertIs(is_to_blame(SHOWN, MEANT, ("there", (1,)), 9), False)
        self.assertEqual(wanted(SHOWN, FIB, ("one", (1,)), 9), (2, count))
        self.assertIs(is_to_blame(SHOWN, FIB, ("one", (1,)), 9), True)
        self.assertEqual(wanted(SHOWN, FIB, ("fib", (1,)), 9), (count, 1))
        self.assertIs(is_to_blame(SHOWN, FIB, ("fib", (1,)), 9), True)

    def test_results_that_are_equal_but_not_alike(self):
        one = read_program("fun f ( x ) = x ; fun g ( x ) = [ f ( 1 ) , f ( true ) ] ;")
        other = read_program("fun f ( x ) = if x == true then 1 else if x == 1 then true else x ; fun g ( x ) = [ true , 1 ] ;")
        self.assertEqual(repr(wanted(one, other, ("f", (1,)), 9)), "(1, True)")
        self.assertIs(is_to_blame(one, other, ("f", (1,)), 9), True)
        self.assertIs(is_to_blame(one, other, ("f", (True,)), 9), True)
        self.assertIs(is_to_blame(one, other, ("f", (0,)), 9), False)
        # Each of two CALLS that are equal, but not ALIKE, has its own right RESULT.
        self.assertEqual(repr(wanted(one, other, ("g", (0,)), 9)), "((True, 1), (True, 1))")
        self.assertIs(is_to_blame(one, other, ("g", (0,)), 9), False)

    def test_other_calls_may_be_needed_over_right_results(self):
        program = read_program("fun f ( x ) = if g ( x ) then h ( x ) else i ( x ) ; fun g ( x ) = true ; fun h ( x ) = 1 ;")
        meaning = read_program("fun f ( x ) = 2 ; fun g ( x ) = false ; fun i ( x ) = 2 ;")
        self.assertEqual(wanted(program, meaning, ("f", (0,)), 9), (2, 2))
        self.assertIs(is_to_blame(program, meaning, ("f", (0,)), 9), False)
        # It may need itself, and has its right RESULT then.
        self.assertEqual(wanted(read_program("fun f ( x ) = f ( x ) + 1 ;"), meaning, ("f", (0,)), 9), (3, 2))

    def test_it_goes_over_right_results_needed_by_needed(self):
        programs = Programs(3)
        for _ in range(60):
            program, meaning = programs.program(), programs.program()
            for value in (0, 1, True, (1,)):
                for name in "fg":
                    call = (name, (value,))
                    try:
                        told = wanted(program, meaning, call, 60)
                    except (Endless, TooMany):
                        continue
                    calls = ()
                    while worked_out(program, call, right_notes(meaning, calls, 60))[0] == "needs":
                        calls += (worked_out(program, call, right_notes(meaning, calls, 60))[1],)
                    ended = worked_out(program, call, right_notes(meaning, calls, 60))[1]
                    self.assertEqual(repr(told), repr((ended, right_result(meaning, call, 60))))
                    self.assertIs(is_to_blame(program, meaning, call, 60), not are_alike(*told))

    def test_the_errors_in_order(self):
        meaning = read_program(
            "fun ring ( x ) = ring ( x ) ; fun up ( x ) = up ( x + 1 ) ; fun flat ( x ) = x ; fun f ( x ) = f ( [ x ] ) ; "
            "fun g ( x ) = g ( x ) ; fun h ( x ) = 1 ;"
        )
        program = read_program(
            "fun f ( x ) = [ flat ( x ) , ring ( x ) , up ( x ) ] ; fun g ( x ) = [ flat ( x ) , up ( x ) , ring ( x ) ] ; "
            "fun h ( x ) = 1 / 0 + ring ( x ) ;"
        )
        for do in (wanted, is_to_blame):
            # The NEEDED ones ahead of the CALL itself, the first one ahead of the others.
            self.raises(Endless, "call", ("ring", (1,)), do, program, meaning, ("f", (1,)), 9)
            self.raises(TooMany, "most", 9, do, program, meaning, ("g", (1,)), 9)
            plain = read_program("fun f ( x ) = flat ( x ) ; fun g ( x ) = flat ( x ) ;")
            self.raises(TooMany, "most", 9, do, plain, meaning, ("f", (1,)), 9)
            self.raises(Endless, "call", ("g", (1,)), do, plain, meaning, ("g", (1,)), 9)
            # A FAULT ends the working out ahead of what would be NEEDED.
            self.assertIsNotNone(do(program, meaning, ("h", (1,)), 9))
        self.assertEqual(wanted(program, meaning, ("h", (1,)), 9), (("fault", "zero"), 1))

    def test_most_is_that_of_each_run(self):
        self.assertEqual(wanted(FIB, FIB, ("fib", (5,)), 6), (5, 5))
        self.raises(TooMany, "most", 5, wanted, FIB, FIB, ("fib", (5,)), 5)
        self.raises(TooMany, "most", 4, wanted, FIB, FIB, ("fib", (5,)), 4)


class IsBlameShownTest(unittest.TestCase):
    def test_it_always_is(self):
        self.assertIs(is_blame_shown(SHOWN, MEANT, book_of(SHOWN, ("both", (2,)), 60), 9), True)
        programs = Programs(11)
        many = 0
        for _ in range(150):
            program, meaning = programs.program(), programs.program()
            for value in (0, 2, True, (1, 2)):
                try:
                    book = book_of(program, ("f", (value,)), 60)
                    wrong = wrong_in(book, meaning, 60)
                except (Endless, TooMany):
                    continue
                many += len(to_blame(book, wrong))
                self.assertIs(is_blame_shown(program, meaning, book, 60), True)
                for index in to_blame(book, wrong):
                    self.assertIs(is_to_blame(program, meaning, book[index][0], 60), True)
        self.assertGreater(many, 150)

    def test_it_is_not_of_what_is_no_book(self):
        # It is the definition that is asked, not the BOOK.
        book = ((("one", (2,)), 7, ()),)
        self.assertIs(is_blame_shown(MEANT, MEANT, book, 9), False)

    def test_the_errors(self):
        book = book_of(FIB, ("fib", (3,)), 60)
        with self.assertRaises(TooMany):
            is_blame_shown(FIB, FIB, book, 2)
        meaning = read_program("fun fib ( n ) = fib ( n ) ;")
        with self.assertRaises(Endless) as caught:
            is_blame_shown(FIB, meaning, book, 2)
        self.assertEqual(caught.exception.call, ("fib", (1,)))


class MendedTest(unittest.TestCase):
    def test_in_the_place_of_one(self):
        better = mended(SHOWN, MEANT, "one")
        self.assertEqual([function[0] for function in better], ["twice", "one", "both"])
        self.assertEqual(better, (SHOWN[0], MEANT[1], SHOWN[2]))
        self.assertEqual(wrong_in(book_of(better, ("both", (2,)), 60), MEANT, 60), ())
        self.assertEqual(mended(SHOWN, SHOWN, "one"), SHOWN)

    def test_behind_all(self):
        meaning = MEANT + (read_function("fun new ( ) = 1 ;"),)
        self.assertEqual(mended(SHOWN, meaning, "new"), SHOWN + (function_of(meaning, "new"),))

    def test_what_is_the_same_in_both_is_not_to_blame(self):
        programs = Programs(5)
        for _ in range(80):
            program, meaning = programs.program(), programs.program()
            better = mended(program, meaning, "g")
            for value in (0, 1, True, (1,), 7):
                try:
                    self.assertIs(is_to_blame(better, meaning, ("g", (value,)), 60), False)
                except (Endless, TooMany):
                    continue

    def test_no_function(self):
        for name in ANY + ("new", "fib", "On", "one "):
            with self.assertRaises(NoFunction) as caught:
                mended(SHOWN, MEANT, name)
            self.assertIs(caught.exception.name, name)
        with self.assertRaises(NoFunction):
            mended(SHOWN, FIB, "one")
