"""[21], with [17]."""

import unittest

from askorhold.books import book_of
from askorhold.errors import Endless, TooMany
from askorhold.forms import are_alike, is_notes
from askorhold.meanings import first_unlike, right_notes, right_result, wrong_in
from askorhold.reader import read_program
from askorhold.runs import result_of
from programs import FIB, KINDS, RUNS

SHOWN = read_program(
    "fun twice ( x ) = x + one ( x ) ; fun one ( x ) = x + 1 ; fun both ( x ) = [ twice ( x ) , one ( x ) , twice ( 0 ) ] ;"
)
MEANT = read_program("fun twice ( x ) = x + x ; fun one ( x ) = x ; fun both ( x ) = [ twice ( x ) , one ( x ) , twice ( 0 ) ] ;")
# What goes on without an end, in two ways, and what comes back.
GOING = read_program(
    "fun ring ( x ) = ring ( x ) ; fun rung ( x ) = ring ( [ x ] ) ; fun up ( x ) = up ( x + 1 ) ; fun flat ( x ) = x ; "
    "fun long ( x ) = if x == 0 then 0 else long ( x - 1 ) ;"
)
OTHER = read_program(
    "fun ring ( x ) = up ( x ) ; fun rung ( x ) = rung ( x ) ; fun up ( x ) = up ( x - 1 ) ; fun flat ( x ) = flat ( x ) ; "
    "fun long ( x ) = 0 ;"
)


class RightTest(unittest.TestCase):
    def raises(self, error, field, wanted, do, *given):
        with self.assertRaises(error) as caught:
            do(*given)
        self.assertEqual(repr(getattr(caught.exception, field)), repr(wanted))

    def test_right_result(self):
        self.assertEqual(right_result(MEANT, ("both", (2,)), 9), (4, 2, 0))
        self.assertEqual(right_result(MEANT, ("there", (2,)), 1), ("fault", "count"))
        for program, call in RUNS:
            self.assertTrue(are_alike(right_result(program, call, 60), result_of(program, call, 60)))
        self.assertIs(right_result(KINDS, ("same", (True,)), 1), True)

    def test_it_raises_what_run_raises(self):
        self.raises(TooMany, "most", 4, right_result, FIB, ("fib", (5,)), 4)
        self.raises(Endless, "call", ("ring", (True,)), right_result, GOING, ("ring", (True,)), 9)
        self.raises(Endless, "call", ("ring", ((1,),)), right_result, GOING, ("rung", (1,)), 9)
        self.raises(TooMany, "most", 9, right_result, GOING, ("up", (1,)), 9)

    def test_right_notes(self):
        calls = (("one", (5,)), ("twice", (1,)), ("one", (True,)), ("one", (1,)), ("there", ()))
        notes = right_notes(MEANT, calls, 9)
        wanted = (5, 2, True, 1, ("fault", "count"))
        self.assertEqual(repr(notes), repr(tuple(zip(calls, wanted))))
        self.assertTrue(is_notes(notes))
        self.assertEqual(right_notes(MEANT, (), 1), ())
        self.assertEqual(right_notes(SHOWN, (("one", (5,)),), 1), ((("one", (5,)), 6),))

    def test_right_notes_with_the_errors_of_the_first_that_has_one(self):
        flat, ring, up = ("flat", (1,)), ("ring", (1,)), ("up", (1,))
        self.raises(Endless, "call", ring, right_notes, GOING, (flat, ring, up), 9)
        self.raises(TooMany, "most", 9, right_notes, GOING, (up, ring), 9)
        self.raises(Endless, "call", ("ring", ((1,),)), right_notes, GOING, (("rung", (1,)), ring), 9)

    def test_wrong_in(self):
        book = book_of(SHOWN, ("both", (2,)), 60)
        self.assertEqual(wrong_in(book, MEANT, 60), (0, 1, 2, 3, 4))
        self.assertEqual(wrong_in(book, SHOWN, 60), ())
        half = read_program("fun twice ( x ) = x + 2 * one ( x ) - x - 1 ; fun one ( x ) = x + 1 ; fun both ( x ) = 1 ;")
        self.assertEqual(wrong_in(book, half, 60), (4,))
        half = read_program("fun twice ( x ) = 5 ; fun one ( x ) = 3 ; fun both ( x ) = [ 5 , 3 , 1 ] ;")
        self.assertEqual(wrong_in(book, half, 60), (2, 3))

    def test_wrong_in_asks_for_alike_results(self):
        program = read_program("fun f ( ) = [ g ( ) , h ( ) ] ; fun g ( ) = 1 ; fun h ( ) = [ 0 ] ; fun i ( ) = true ;")
        meaning = read_program("fun f ( ) = [ true , [ 0 ] ] ; fun g ( ) = true ; fun h ( ) = [ 0 ] ; fun i ( ) = 1 ;")
        self.assertEqual(wrong_in(book_of(program, ("f", ()), 60), meaning, 60), (0, 2))
        self.assertEqual(wrong_in(book_of(program, ("i", ()), 60), meaning, 60), (0,))
        meaning = read_program("fun f ( ) = 1 / 0 ; fun g ( ) = 1 ; fun h ( ) = [ false ] ;")
        self.assertEqual(wrong_in(book_of(program, ("f", ()), 60), meaning, 60), (1, 2))

    def test_wrong_in_looks_at_faults(self):
        program = read_program("fun f ( ) = g ( ) ; fun g ( ) = 1 / 0 ;")
        book = book_of(program, ("f", ()), 60)
        self.assertEqual(wrong_in(book, read_program("fun f ( ) = 1 mod 0 ; fun g ( ) = first ( [ ] ) ;"), 9), (0,))
        self.assertEqual(wrong_in(book, read_program("fun f ( ) = g ( ) ; fun h ( ) = 1 ;"), 9), (0, 1))

    def test_wrong_in_with_the_errors_of_the_first_that_has_one(self):
        program = read_program("fun f ( ) = [ flat ( 1 ) , ring ( 1 ) , up ( 1 ) ] ; fun flat ( x ) = x ; fun ring ( x ) = x ; fun up ( x ) = x ;")
        book = book_of(program, ("f", ()), 60)
        self.raises(Endless, "call", ("ring", (1,)), wrong_in, book, GOING, 9)
        program = read_program("fun f ( ) = [ flat ( 1 ) , up ( 1 ) , ring ( 1 ) ] ; fun flat ( x ) = x ; fun ring ( x ) = x ; fun up ( x ) = x ;")
        book = book_of(program, ("f", ()), 60)
        self.raises(TooMany, "most", 9, wrong_in, book, GOING, 9)
        self.raises(TooMany, "most", 1, wrong_in, book_of(FIB, ("fib", (3,)), 60), FIB, 1)


class FirstUnlikeTest(unittest.TestCase):
    def test_results(self):
        calls = (("there", ()), ("both", (True,)), ("twice", (True,)), ("one", (1,)), ("twice", (1,)))
        self.assertEqual(first_unlike(SHOWN, MEANT, calls, 9), 3)
        self.assertIsNone(first_unlike(SHOWN, MEANT, calls[:1] + calls[2:3], 9))
        self.assertIsNone(first_unlike(SHOWN, MEANT, (), 9))
        self.assertIsNone(first_unlike(SHOWN, SHOWN, calls, 9))
        self.assertEqual(first_unlike(SHOWN, MEANT, calls[4:] + calls, 9), 0)

    def test_results_that_are_equal_but_not_alike(self):
        one = read_program("fun f ( x ) = x ; fun g ( ) = [ 0 , [ true ] ] ;")
        other = read_program("fun f ( x ) = if x == true then 1 else if x == 1 then true else x ; fun g ( ) = [ 0 , [ 1 ] ] ;")
        self.assertEqual(first_unlike(one, other, (("f", (0,)), ("f", (False,)), ("f", (1,))), 9), 2)
        self.assertEqual(first_unlike(one, other, (("f", (2,)), ("f", (True,))), 9), 1)
        self.assertEqual(first_unlike(one, other, (("g", ()),), 9), 0)

    def test_runs_that_come_back_or_go_on(self):
        # In one alone.
        self.assertEqual(first_unlike(GOING, OTHER, (("flat", (1,)),), 9), 0)
        self.assertEqual(first_unlike(OTHER, GOING, (("flat", (1,)),), 9), 0)
        self.assertEqual(first_unlike(GOING, OTHER, (("there", ()), ("long", (9,))), 9), 1)
        self.assertEqual(first_unlike(OTHER, GOING, (("there", ()), ("long", (9,))), 9), 1)
        self.assertIsNone(first_unlike(GOING, OTHER, (("long", (9,)),), 10))
        # In both, alike: the CALL that comes back may be another one.
        self.assertIsNone(first_unlike(GOING, OTHER, (("rung", (1,)), ("up", (1,)), ("rung", (True,))), 9))
        # In both, in unlike ways.
        self.assertEqual(first_unlike(GOING, OTHER, (("up", (1,)), ("ring", (1,))), 9), 1)
        self.assertEqual(first_unlike(OTHER, GOING, (("up", (1,)), ("ring", (1,))), 9), 1)

    def test_most_counts_for_both(self):
        self.assertEqual(first_unlike(FIB, read_program("fun fib ( n ) = n ;"), (("fib", (1,)), ("fib", (5,))), 5), 1)
        self.assertIsNone(first_unlike(FIB, FIB, (("fib", (50,)),), 5))
        self.assertEqual(first_unlike(FIB, read_program("fun fib ( n ) = 5 ;"), (("fib", (5,)),), 5), 0)
        self.assertIsNone(first_unlike(FIB, read_program("fun fib ( n ) = 5 ;"), (("fib", (5,)),), 6))
