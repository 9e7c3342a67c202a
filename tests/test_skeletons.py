"""[34], with [13] and [18], and the definition of a WEB in [2]."""

import unittest

from askorhold.books import book_of, web_of
from askorhold.forms import is_call
from askorhold.reader import read_program
from askorhold.runs import result_of
from askorhold.skeletons import index_in, is_skeleton, skeleton_of, staying, web_in
from askorhold.trees import changed_names
from askorhold.webs import below, is_web
from programs import FAULTS, FIB, KINDS, RUNS, SHARED, falling_runs
from things import ANY, spoiled

TWO = ((("f", ()), (), 1, 0), (("g", (1,)), (0,), 3, 2))


def is_plain_skeleton(thing):
    """The definition of a SKELETON, word by word."""
    if type(thing) is not tuple or not thing or not all(type(part) is tuple and len(part) == 4 for part in thing):
        return False
    if not all(is_call(part[0]) for part in thing) or not is_web(tuple(part[1:] for part in thing)):
        return False
    # CALLS are ALIKE if they look alike: a truth does not look like an integer.
    return len({repr(part[0]) for part in thing}) == len(thing)


def plain_staying(program, skeleton, other, later):
    """The definition of STAY, word by word."""
    changed = [name for name in {f[0] for f in program + other} if [f for f in program if f[0] == name] != [f for f in other if f[0] == name]]
    web = tuple(part[1:] for part in skeleton)
    stay = {}
    for index, part in enumerate(skeleton):
        places = [place for place, found in enumerate(later) if repr(found[0]) == repr(part[0])]
        names = {skeleton[node][0][0] for node in below(web, index) + (index,)}
        if places and not names & set(changed):
            stay[index] = places[0]
    return stay


class IsSkeletonTest(unittest.TestCase):
    def check(self, thing):
        wanted = is_plain_skeleton(thing)
        self.assertIs(is_skeleton(thing), wanted, thing)
        return wanted

    def test_those_of_books(self):
        for program, call in RUNS:
            skeleton = skeleton_of(program, book_of(program, call, 60))
            self.assertIs(is_skeleton(skeleton), True)
            self.assertIs(is_skeleton(skeleton[:-1]), len(skeleton) > 1)

    def test_one_part_otherwise(self):
        right = 0
        for program, call in ((FIB, ("fib", (3,))), (KINDS, ("pair", ())), (KINDS, ("same", ((1, (True, -2)),))), (FAULTS, ("two", ()))):
            for thing in spoiled(skeleton_of(program, book_of(program, call, 60))):
                right += self.check(thing)
        for thing in spoiled(TWO):
            right += self.check(thing)
        self.assertGreater(right, 30)

    def test_nothing_and_one_node(self):
        self.assertIs(is_skeleton(()), False)
        self.assertIs(is_skeleton(TWO[:1]), True)
        self.assertIs(is_skeleton(TWO[1:]), False)

    def test_a_call_twice(self):
        for call, other, wanted in (
            (("f", ()), ("f", ()), False), (("f", (1,)), ("f", (True,)), True), (("f", (0,)), ("f", (False,)), True),
            (("f", ((1,),)), ("f", ((True,),)), True), (("f", ((1,),)), ("f", ((1,),)), False), (("f", (1,)), ("f", ((1,),)), True),
            (("f", ()), ("g", ()), True), (("f", ((), 1)), ("f", ((1,),)), True),
        ):
            self.assertIs(is_skeleton(((call, (), 1, 0), (other, (), 1, 0))), wanted)
            self.assertIs(is_skeleton(((call, (), 1, 0), (("h", ()), (), 2, 2), (other, (0, 1), 5, 0))), wanted)

    def test_callees(self):
        first, second = (("f", ()), (), 1, 0), (("g", ()), (), 1, 0)
        for callees, wanted in (
            ((), True), ((0,), True), ((1,), True), ((0, 1), True), ((1, 0), False), ((0, 0), False), ((2,), False), ((-1,), False),
            ([0], False), ((True,), False), ((False,), False), (0, False), (None, False), ((0, 2), False), (((0,),), False),
        ):
            self.assertIs(is_skeleton((first, second, (("h", ()), callees, 1, 0))), wanted, callees)
        self.assertIs(is_skeleton(((("h", ()), (0,), 1, 0),)), False)

    def test_prices_and_readings(self):
        for price, reading, wanted in (
            (1, 0, True), (10 ** 49, 10 ** 49, True), (0, 0, False), (-1, 0, False), (1, -1, False), (True, 0, False), (1, False, False),
            (1, True, False), (None, 0, False), (1, None, False), ("1", 0, False), (1, (0,), False),
        ):
            self.assertIs(is_skeleton(((("h", ()), (), price, reading),)), wanted)

    def test_calls(self):
        for call, wanted in ((("h", ()), True), (["h", ()], False), (("h", []), False), (("if", ()), False), (("h", (None,)), False), ("h", False)):
            self.assertIs(is_skeleton(((call, (), 1, 0),)), wanted)

    def test_lists_and_lengths(self):
        for thing in (list(TWO), (list(TWO[0]), TWO[1]), (TWO[0] + (0,), TWO[1]), (TWO[0][:3], TWO[1]), TWO + (None,), TWO + ((),)):
            self.assertIs(is_skeleton(thing), False)

    def test_any_value(self):
        for thing in ANY:
            self.check(thing)
            self.check((thing,))
            for at in range(4):
                self.check(TWO[:1] + (TWO[1][:at] + (thing,) + TWO[1][at + 1:],))


class SkeletonTest(unittest.TestCase):
    def test_a_book_without_its_results(self):
        for program, call in RUNS:
            book = book_of(program, call, 60)
            skeleton = skeleton_of(program, book)
            self.assertEqual(repr([part[0] for part in skeleton]), repr([entry[0] for entry in book]))
            self.assertEqual(web_in(skeleton), web_of(program, book))
            self.assertEqual([part[1] for part in skeleton], [entry[2] for entry in book])
            self.assertTrue(all(type(part) is tuple and len(part) == 4 for part in skeleton))

    def test_the_examples(self):
        program = read_program("fun fib ( n ) = if n < 2 then n else fib ( n - 1 ) + fib ( n - 2 ) ;")
        skeleton = skeleton_of(program, book_of(program, ("fib", (4,)), 60))
        self.assertEqual([skeleton[3], web_in(skeleton)[4]], [(("fib", (3,)), (0, 2), 1, 0), ((2, 3), 1, 0)])
        self.assertEqual([index_in(skeleton, ("fib", (0,))), is_skeleton(skeleton), is_skeleton(skeleton[1:])], [1, True, False])

    def test_index_in(self):
        for program, call in RUNS:
            skeleton = skeleton_of(program, book_of(program, call, 60))
            for index, part in enumerate(skeleton):
                self.assertEqual(index_in(skeleton, part[0]), index)
        skeleton = ((("f", (True,)), (), 1, 0), (("f", (1,)), (), 1, 0), (("f", ((0,),)), (), 1, 0))
        self.assertEqual([index_in(skeleton, ("f", (value,))) for value in (1, True, (0,), (False,), 0)], [1, 0, 2, None, None])
        self.assertEqual([index_in(skeleton[:1], ("f", (1,))), index_in(skeleton, ("f", ())), index_in(skeleton, ("g", (1,)))], [None, None, None])


class StayingTest(unittest.TestCase):
    SHAPES = "fun top ( ) = [ a ( ) , b ( ) , c ( ) ] ; fun a ( ) = c ( ) + d ( ) ; fun b ( ) = d ( ) ; fun c ( ) = e ( ) ; "

    def check(self, program, call, other, later_call):
        skeleton = skeleton_of(program, book_of(program, call, 60))
        later = skeleton_of(other, book_of(other, later_call, 60))
        stay = staying(program, skeleton, other, later)
        self.assertIs(type(stay), dict)
        self.assertEqual(stay, plain_staying(program, skeleton, other, later))
        self.assertEqual(list(stay), sorted(stay))
        changed = changed_names(program, other)
        for index, place in stay.items():
            self.assertTrue(all(node in stay for node in below(web_in(skeleton), index)))
            self.assertFalse({skeleton[node][0][0] for node in below(web_in(skeleton), index) + (index,)} & set(changed))
            # What STAYS has just what it had, but for the indexes.
            self.assertEqual(repr(skeleton[index][0]), repr(later[place][0]))
            self.assertEqual(skeleton[index][2:], later[place][2:])
            self.assertEqual(sorted(stay[callee] for callee in skeleton[index][1]), list(later[place][1]))
            self.assertEqual(repr(result_of(program, skeleton[index][0], 60)), repr(result_of(other, later[place][0], 60)))
        return stay

    def test_the_same_program(self):
        for program, call in RUNS:
            stay = self.check(program, call, program, call)
            self.assertEqual(stay, {index: index for index in range(len(stay))})
            self.assertGreater(len(stay), 0)

    def test_another_call_is_run(self):
        self.assertEqual(self.check(FIB, ("fib", (5,)), FIB, ("fib", (3,))), {0: 0, 1: 1, 2: 2, 3: 3})
        self.assertEqual(self.check(FIB, ("fib", (3,)), FIB, ("fib", (5,))), {0: 0, 1: 1, 2: 2, 3: 3})
        self.assertEqual(self.check(SHARED, ("top", ()), SHARED, ("b", ())), {2: 0, 4: 1})
        self.assertEqual(self.check(FIB, ("fib", (4,)), FIB, ("fib", (-4,))), {})

    def test_functions_changed(self):
        rest = "fun e ( ) = 3 ;"
        self.assertEqual(self.check(SHARED, ("top", ()), read_program(self.SHAPES + "fun d ( ) = 1 + 1 ; " + rest), ("top", ())), {0: 0, 1: 1})
        self.assertEqual(self.check(SHARED, ("top", ()), read_program(self.SHAPES + "fun d ( ) = 2 ; fun e ( ) = 4 ;"), ("top", ())), {2: 2, 4: 4})
        other = read_program(self.SHAPES.replace("a ( ) , b ( ) , c ( )", "c ( ) , b ( ) , a ( )") + "fun d ( ) = 2 ; " + rest)
        self.assertEqual(self.check(SHARED, ("top", ()), other, ("top", ())), {0: 0, 1: 1, 2: 2, 3: 4, 4: 3})

    def test_functions_put_in_and_left_out(self):
        more = SHARED + read_program("fun z ( ) = 1 ;")
        self.assertEqual(self.check(SHARED, ("top", ()), more, ("top", ())), {index: index for index in range(6)})
        self.assertEqual(self.check(more, ("top", ()), SHARED, ("top", ())), {index: index for index in range(6)})
        self.assertEqual(self.check(SHARED, ("a", ()), SHARED[:-1], ("d", ())), {2: 0})
        self.assertEqual(self.check(SHARED, ("a", ()), SHARED[:-1], ("c", ())), {})
        # A CALL of a function that is not there STAYS, too, until it is there.
        self.assertEqual(self.check(SHARED[:-1], ("a", ()), SHARED[:-1], ("c", ())), {0: 0, 1: 1})
        self.assertEqual(self.check(SHARED[:-1], ("a", ()), SHARED, ("a", ())), {})

    def test_parameters_in_another_order(self):
        one = read_program("fun f ( a , b ) = [ a , b , g ( a ) ] ; fun g ( a ) = a ;")
        other = read_program("fun f ( b , a ) = [ a , b , g ( a ) ] ; fun g ( a ) = a ;")
        self.assertEqual(self.check(one, ("f", (1, 2)), other, ("f", (2, 1))), {0: 0})
        self.assertEqual(self.check(one, ("f", (1, 1)), other, ("f", (1, 1))), {0: 0})
        self.assertEqual(self.check(one, ("f", (1, 1)), one[::-1], ("f", (1, 1))), {0: 0, 1: 1})

    def test_calls_that_are_equal_but_not_alike(self):
        one = read_program("fun f ( ) = [ g ( 1 ) , g ( true ) ] ; fun h ( ) = g ( true ) ; fun k ( ) = [ g ( true ) , g ( 1 ) ] ; fun g ( x ) = x ;")
        self.assertEqual(self.check(one, ("f", ()), one, ("h", ())), {1: 0})
        self.assertEqual(self.check(one, ("h", ()), one, ("f", ())), {0: 1})
        self.assertEqual(self.check(one, ("f", ()), one, ("k", ())), {0: 1, 1: 0})
        self.assertEqual(self.check(one, ("h", ()), one, ("g", (1,))), {})
        self.assertEqual(self.check(KINDS, ("both", ()), KINDS, ("is", (0,))), {2: 0})

    def test_one_below_through_another_is_changed(self):
        one = read_program("fun f ( ) = g ( ) ; fun g ( ) = h ( ) ; fun h ( ) = k ( ) ; fun k ( ) = 1 ; fun z ( ) = 1 ;")
        for name, many in (("k", 0), ("h", 1), ("g", 2), ("f", 3), ("z", 4)):
            other = tuple((f[0], f[1], ("let", "q", ("number", 1), f[2])) if f[0] == name else f for f in one)
            self.assertEqual(len(self.check(one, ("f", ()), other, ("f", ()))), many)

    def test_falling_programs(self):
        stayed = 0
        runs = falling_runs(3, 40, 5, 30)
        for (program, book), (another, _) in zip(runs, runs[1:]):
            for at in range(4):
                other = program[:at] + (another[at],) + program[at + 1:]
                for call in {entry[0] for entry in book[::4]} | {book[-1][0]}:
                    stayed += len(self.check(program, book[-1][0], other, call))
        self.assertGreater(stayed, 300)
