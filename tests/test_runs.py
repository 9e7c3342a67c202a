"""[17], and the guarantee [5]."""

import unittest

from askorhold.bodies import worked_out
from askorhold.errors import Endless, TooMany
from askorhold.forms import are_alike, is_notes, result_in
from askorhold.reader import read_program
from askorhold.runs import nested_result, result_of, run
from programs import Programs

KIND, ZERO, EMPTY, GREAT, COUNT = [("fault", word) for word in ("kind", "zero", "empty", "great", "count")]
FIB = read_program("fun fib ( n ) = if n < 2 then n else fib ( n - 1 ) + fib ( n - 2 ) ;")
DOWN = read_program("fun down ( n ) = if n == 0 then 0 else 1 + down ( n - 1 ) ;")
KINDS = read_program(
    "fun both ( ) = [ is ( 1 ) , is ( true ) , is ( 0 ) , is ( false ) , is ( 1 ) ] ; fun is ( x ) = if x == true then 1 else "
    "if x == false then 0 else [ x ] ;"
)


class RunTest(unittest.TestCase):
    def raises(self, error, field, wanted, program, call, most):
        for do in (run, result_of):
            with self.subTest(call=call, most=most, do=do.__name__):
                with self.assertRaises(error) as caught:
                    do(program, call, most)
                self.assertEqual(repr(getattr(caught.exception, field)), repr(wanted))

    def test_the_order_of_notes(self):
        self.assertEqual(run(FIB, ("fib", (1,)), 1), ((("fib", (1,)), 1),))
        self.assertEqual([call[1][0] for call, _ in run(FIB, ("fib", (6,)), 60)], [1, 0, 2, 3, 4, 5, 6])
        program = read_program(
            "fun top ( ) = [ a ( ) , b ( ) , c ( ) ] ; fun a ( ) = c ( ) + d ( ) ; fun b ( ) = d ( ) ; fun c ( ) = e ( ) ; "
            "fun d ( ) = 2 ; fun e ( ) = 3 ;"
        )
        names = [call[0] for call, _ in run(program, ("top", ()), 6)]
        self.assertEqual(names, ["e", "c", "d", "a", "b", "top"])
        self.assertEqual(result_of(program, ("top", ()), 6), (5, 2, 3))

    def test_each_note_is_worked_out_over_those_ahead_of_it(self):
        for program, call in ((FIB, ("fib", (12,))), (KINDS, ("both", ())), (DOWN, ("down", (9,))), (FIB, ("fib", (True,)))):
            notes = run(program, call, 60)
            self.assertTrue(is_notes(notes))
            self.assertEqual(notes[-1][0], call)
            for at, (inner, result) in enumerate(notes):
                word, ended, callees = worked_out(program, inner, notes[:at])
                self.assertEqual(word, "result")
                self.assertTrue(are_alike(ended, result))
                for callee in callees:
                    self.assertIsNotNone(result_in(notes[:at], callee))

    def test_calls_that_are_equal_but_not_alike(self):
        notes = run(KINDS, ("both", ()), 5)
        wanted = (
            (("is", (1,)), (1,)), (("is", (True,)), 1), (("is", (0,)), (0,)), (("is", (False,)), 0),
            (("both", ()), ((1,), 1, (0,), 0, (1,))),
        )
        self.assertEqual(repr(notes), repr(wanted))
        self.raises(TooMany, "most", 4, KINDS, ("both", ()), 4)

    def test_faults(self):
        for text, result in (
            ("1 / 0", ZERO), ("first ( [ ] )", EMPTY), ("h ( )", COUNT), ("f ( 1 )", COUNT), ("true + 1", KIND),
            ("let x = 9999999999999999999999999999999999999999 in x + x", GREAT),
        ):
            program = read_program(f"fun f ( ) = {text} ; fun g ( ) = f ( ) == 1 ;")
            self.assertEqual(result_of(program, ("f", ()), 2), result)
            self.assertEqual(result_of(program, ("g", ()), 3), result)
            self.assertEqual(nested_result(program, ("g", ()), 3), result)

    def test_calls_without_a_function(self):
        program = read_program("fun f ( x ) = x ;")
        for call in (("g", ()), ("f", ()), ("f", (1, 2))):
            self.assertEqual(run(program, call, 1), ((call, COUNT),))
            self.assertEqual(nested_result(program, call, 1), COUNT)
        program = read_program("fun f ( x ) = g ( x ) ;")
        self.assertEqual(run(program, ("f", (1,)), 2), ((("g", (1,)), COUNT), (("f", (1,)), COUNT)))
        self.raises(TooMany, "most", 1, program, ("f", (1,)), 1)

    def test_endless(self):
        program = read_program(
            "fun a ( ) = b ( 1 ) ; fun b ( x ) = c ( x ) ; fun c ( x ) = b ( x ) ; fun s ( ) = s ( ) ; "
            "fun t ( x ) = if x == true then t ( 1 ) else t ( true ) ; fun u ( x ) = [ d ( ) , u ( x ) ] ; fun d ( ) = 1 ;"
        )
        self.raises(Endless, "call", ("s", ()), program, ("s", ()), 1)
        self.raises(Endless, "call", ("b", (1,)), program, ("a", ()), 3)
        self.raises(Endless, "call", ("b", (1,)), program, ("a", ()), 60)
        self.raises(Endless, "call", ("c", (2,)), program, ("c", (2,)), 2)
        self.raises(Endless, "call", ("t", (1,)), program, ("t", (1,)), 2)
        self.raises(Endless, "call", ("t", (True,)), program, ("t", (True,)), 2)
        self.raises(Endless, "call", ("u", (0,)), program, ("u", (0,)), 2)
        self.raises(Endless, "call", ("u", (False,)), program, ("u", (False,)), 2)

    def test_which_comes_first(self):
        program = read_program("fun a ( ) = b ( ) ; fun b ( ) = a ( ) ; fun c ( x ) = c ( [ x ] ) ;")
        self.raises(TooMany, "most", 1, program, ("a", ()), 1)
        self.raises(Endless, "call", ("a", ()), program, ("a", ()), 2)
        self.raises(TooMany, "most", 7, program, ("c", (0,)), 7)
        program = read_program("fun a ( ) = [ d ( ) , a ( ) ] ; fun d ( ) = 1 ;")
        self.raises(TooMany, "most", 1, program, ("a", ()), 1)
        self.raises(Endless, "call", ("a", ()), program, ("a", ()), 2)

    def test_a_call_that_was_known_is_no_endless_one(self):
        program = read_program("fun a ( ) = [ d ( ) , d ( ) , e ( ) ] ; fun e ( ) = d ( ) ; fun d ( ) = 1 ;")
        self.assertEqual(result_of(program, ("a", ()), 3), (1, 1, 1))

    def test_limits(self):
        for n in range(2, 12):
            self.assertEqual(len(run(FIB, ("fib", (n,)), n + 1)), n + 1)
            self.raises(TooMany, "most", n, FIB, ("fib", (n,)), n)
        self.assertEqual(run(FIB, ("fib", (3,)), 4), run(FIB, ("fib", (3,)), 1000))
        # All known ones count, not only those that are begun.
        program = read_program("fun f ( ) = [ g ( 1 ) , g ( 2 ) , g ( 3 ) , g ( 1 ) ] ; fun g ( x ) = x ;")
        self.assertEqual(len(run(program, ("f", ()), 4)), 4)
        self.raises(TooMany, "most", 3, program, ("f", ()), 3)

    def test_a_run_of_many_calls(self):
        notes = run(DOWN, ("down", (300,)), 301)
        self.assertEqual(notes, tuple((("down", (n,)), n) for n in range(301)))
        self.raises(TooMany, "most", 300, DOWN, ("down", (300,)), 300)
        self.assertEqual(result_of(DOWN, ("down", (2000,)), 2001), 2000)
        self.raises(TooMany, "most", 300, DOWN, ("down", (-1,)), 300)

    def test_a_list_that_gets_deeper(self):
        program = read_program("fun f ( n ) = if n == 0 then [ ] else [ f ( n - 1 ) ] ; fun g ( n , x ) = g ( n - 1 , [ x ] ) ;")
        deep = result_of(program, ("f", (199,)), 300)
        for _ in range(199):
            deep = deep[0]
        self.assertEqual(deep, ())
        self.assertEqual(result_of(program, ("f", (200,)), 300), GREAT)
        self.assertEqual(result_of(program, ("g", (0, ())), 300), GREAT)


class NestedTest(unittest.TestCase):
    def test_limits(self):
        # How many CALLS fib evaluates, each as often as it is evaluated.
        for n, many in ((0, 1), (1, 1), (2, 3), (3, 5), (4, 9), (5, 15), (6, 25), (9, 109)):
            result = result_of(FIB, ("fib", (n,)), 60)
            self.assertEqual(nested_result(FIB, ("fib", (n,)), many), result)
            self.assertEqual(nested_result(FIB, ("fib", (n,)), 1000), result)
            if many > 1:
                self.assertIsNone(nested_result(FIB, ("fib", (n,)), many - 1))

    def test_twenty_and_twenty_one_in_one_another(self):
        self.assertEqual(nested_result(DOWN, ("down", (19,)), 20), 19)
        self.assertEqual(nested_result(DOWN, ("down", (19,)), 1000), 19)
        self.assertIsNone(nested_result(DOWN, ("down", (19,)), 19))
        self.assertIsNone(nested_result(DOWN, ("down", (20,)), 21))
        self.assertIsNone(nested_result(DOWN, ("down", (20,)), 1000))

    def test_twenty_in_one_another_more_than_once(self):
        program = DOWN + read_program("fun two ( n ) = down ( n ) + down ( n ) ;")
        self.assertEqual(nested_result(program, ("two", (18,)), 39), 36)
        self.assertIsNone(nested_result(program, ("two", (18,)), 38))
        self.assertIsNone(nested_result(program, ("two", (19,)), 1000))

    def test_arguments_do_not_stand_in_a_call(self):
        program = read_program("fun f ( x ) = x + 1 ; fun g ( x ) = f ( f ( f ( x ) ) ) ;")
        self.assertEqual(nested_result(program, ("g", (0,)), 4), 3)
        self.assertIsNone(nested_result(program, ("g", (0,)), 3))

    def test_endless_ones(self):
        program = read_program("fun s ( ) = s ( ) ; fun t ( x ) = if x then 1 else [ t ( true ) , t ( x ) ] ;")
        self.assertIsNone(nested_result(program, ("s", ()), 1000))
        self.assertIsNone(nested_result(program, ("t", (False,)), 1000))
        self.assertEqual(nested_result(program, ("t", (True,)), 1000), 1)

    def test_calls_without_a_function_count(self):
        program = read_program("fun f ( ) = true or g ( ) ; fun h ( ) = [ 1 , g ( ) , f ( ) ] ;")
        self.assertEqual(nested_result(program, ("f", ()), 1), True)
        self.assertEqual(nested_result(program, ("h", ()), 2), COUNT)
        self.assertIsNone(nested_result(program, ("h", ()), 1))

    def test_calls_that_are_equal_but_not_alike(self):
        self.assertEqual(repr(nested_result(KINDS, ("both", ()), 6)), repr(((1,), 1, (0,), 0, (1,))))
        self.assertIsNone(nested_result(KINDS, ("both", ()), 5))

    def test_deep_bodies_in_one_another(self):
        deep = "f ( n - 1 )"
        for _ in range(8):
            deep = f"( if true then {deep} else 0 )"
        program = read_program(f"fun f ( n ) = if n == 0 then 1 else {deep} ;")
        self.assertEqual(nested_result(program, ("f", (19,)), 20), 1)
        body = ("call", "f", (("two", "-", ("name", "n"), ("number", 1)),))
        for _ in range(17):
            body = ("two", "+", ("number", 1), body)
        program = (("f", ("n",), ("if", ("two", "==", ("name", "n"), ("number", 0)), ("number", 0), body)),)
        self.assertEqual(nested_result(program, ("f", (19,)), 20), 17 * 19)


class BothTest(unittest.TestCase):
    def test_where_both_return_a_result_they_are_alike(self):
        programs = Programs(7)
        both = 0
        for _ in range(300):
            program = programs.program()
            for value in (0, 1, 2, True, (1, 2)):
                nested = nested_result(program, ("f", (value,)), 200)
                try:
                    result = result_of(program, ("f", (value,)), 60)
                except (Endless, TooMany):
                    continue
                if nested is not None:
                    both += 1
                    self.assertTrue(are_alike(nested, result))
        self.assertGreater(both, 500)
