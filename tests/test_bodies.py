"""[16], with the definitions in [2]: to WORK OUT, NEEDS, CALLEES, the rules and the five FAULTS."""

import copy
import unittest

from askorhold.bodies import evaluated, worked_out
from askorhold.forms import are_alike
from askorhold.reader import read_function, read_program

KIND, ZERO, EMPTY, GREAT, COUNT = [("fault", word) for word in ("kind", "zero", "empty", "great", "count")]
INTEGER_OPERATORS = ("<", "<=", "-", "*", "/", "mod")
# What is a VALUE, with the text that makes it.
TEXTS = {"3": 3, "true": True, "false": False, "[ ]": (), "[ 1 ]": (1,)}


def body(text, names="x , y"):
    return read_function(f"fun f ( {names} ) = {text} ;")[2]


class BodiesTest(unittest.TestCase):
    def tells(self, text, result, names=None, notes=(), callees=()):
        """The E of a text, with x and y among the names, has a RESULT."""
        given = {"x": 0, "y": 0} if names is None else names
        with self.subTest(text=text):
            word, ended, taken = evaluated(body(text), given, notes)
            self.assertEqual(word, "result")
            self.assertTrue(are_alike(ended, result), (ended, result))
            self.assertEqual(repr(ended), repr(result))
            self.assertEqual(repr(taken), repr(callees))

    def needs(self, text, call, names=None, notes=(), callees=()):
        given = {"x": 0, "y": 0} if names is None else names
        with self.subTest(text=text):
            self.assertEqual(repr(evaluated(body(text), given, notes)), repr(("needs", call, callees)))


class ValuesTest(BodiesTest):
    def test_plain_ones(self):
        self.tells("7", 7)
        self.tells("true", True)
        self.tells("false", False)
        self.tells("[ ]", ())
        self.tells("[ 1 , [ true , 0 ] , x ]", (1, (True, 0), ()), {"x": (), "y": 1})
        self.tells("x", (False, 0), {"x": (False, 0), "y": 1})

    def test_names_that_are_not_needed(self):
        self.tells("1", 1, {})
        self.tells("x", 5, {"x": 5, "y": 6, "z": 7, "other": ()})

    def test_let(self):
        self.tells("let z = 1 in z + z", 2)
        self.tells("let x = x + 1 in x + 1", 5, {"x": 3})
        self.tells("( let x = 1 in x ) + x", 4, {"x": 3})
        self.tells("let z = let z = 2 in z + 1 in z * 10", 30)
        self.tells("let z = 1 in let z = z + 1 in z", 2)
        self.tells("let z = 1 in ( let z = 2 in z ) * 10 + z", 21)
        self.tells("let z = 1 in 5", 5)

    def test_if(self):
        self.tells("if true then 1 else 2", 1)
        self.tells("if false then 1 else 2", 2)
        self.tells("if 1 < 2 then [ ] else 2", ())
        for text in ("0", "1", "[ ]", "[ true ]"):
            self.tells(f"if {text} then 1 else 2", KIND)

    def test_and_and_or(self):
        for one in (True, False):
            for other in (True, False):
                names = {"x": one, "y": other}
                self.tells("x and y", one and other, names)
                self.tells("x or y", one or other, names)
        for bad in (0, 1, (), (True,)):
            self.tells("x and true", KIND, {"x": bad})
            self.tells("x and false", KIND, {"x": bad})
            self.tells("x or true", KIND, {"x": bad})
            self.tells("x or false", KIND, {"x": bad})
            self.tells("true and x", KIND, {"x": bad})
            self.tells("false or x", KIND, {"x": bad})
            self.tells("false and x", False, {"x": bad})
            self.tells("true or x", True, {"x": bad})

    def test_equal(self):
        things = (0, 1, True, False, (), (0,), (False,), (1, True), (True, 1), ((),))
        for at, one in enumerate(things):
            for place, other in enumerate(things):
                self.tells("x == y", at == place, {"x": one, "y": other})

    def test_comparing(self):
        for one in (-2, 0, 1, 10 ** 39):
            for other in (-2, 0, 1, 10 ** 39):
                self.tells("x < y", one < other, {"x": one, "y": other})
                self.tells("x <= y", one <= other, {"x": one, "y": other})

    def test_arithmetic(self):
        for one in (-7, -6, -1, 0, 1, 6, 7):
            for other in (-3, -2, -1, 1, 2, 3):
                names = {"x": one, "y": other}
                self.tells("x + y", one + other, names)
                self.tells("x - y", one - other, names)
                self.tells("x * y", one * other, names)
                self.tells("x / y", one // other, names)
                self.tells("x mod y", one % other, names)

    def test_dividing_with_integers_below_zero(self):
        for one, other, quotient, left in ((7, 2, 3, 1), (-7, 2, -4, 1), (7, -2, -4, -1), (-7, -2, 3, -1), (-1, 10, -1, 9),
                                           (6, -3, -2, 0), (-6, 3, -2, 0), (0, -5, 0, 0), (1, -10, -1, -9)):
            self.tells("x / y", quotient, {"x": one, "y": other})
            self.tells("x mod y", left, {"x": one, "y": other})

    def test_lists(self):
        self.tells("[ 1 ] + [ 2 , true ]", (1, 2, True))
        self.tells("[ ] + [ ]", ())
        self.tells("[ ] + [ [ ] ]", ((),))
        self.tells("first ( [ true , 2 ] )", True)
        self.tells("first ( [ [ 1 ] ] )", (1,))
        self.tells("rest ( [ 1 , 2 , false ] )", (2, False))
        self.tells("rest ( [ 1 ] )", ())
        self.tells("size ( [ ] )", 0)
        self.tells("size ( [ 1 , [ 2 , 3 ] ] )", 2)


class FaultsTest(BodiesTest):
    def test_kind(self):
        for one, left in TEXTS.items():
            for other, right in TEXTS.items():
                both = type(left) is int and type(right) is int
                for operator in INTEGER_OPERATORS:
                    if not both:
                        self.tells(f"{one} {operator} {other}", KIND)
                if not both and not (type(left) is tuple and type(right) is tuple):
                    self.tells(f"{one} + {other}", KIND)
        for text in ("3", "true", "false"):
            for word in ("first", "rest", "size"):
                self.tells(f"{word} ( {text} )", KIND)

    def test_zero(self):
        self.tells("1 / 0", ZERO)
        self.tells("0 mod 0", ZERO)
        self.tells("( 0 - 1 ) / ( 1 - 1 )", ZERO)
        for text in ("true", "false", "[ ]"):
            self.tells(f"{text} / 0", KIND)
            self.tells(f"{text} mod 0", KIND)
            self.tells(f"0 / {text}", KIND)
            self.tells(f"1 mod {text}", KIND)

    def test_empty(self):
        self.tells("first ( [ ] )", EMPTY)
        self.tells("rest ( [ ] )", EMPTY)
        self.tells("first ( rest ( [ 1 ] ) )", EMPTY)

    def test_great_integers(self):
        most = 10 ** 40 - 1
        for text, one, other, result in (
            ("x + y", most, 0, most), ("x + y", most, 1, GREAT), ("x + y", most - 1, 1, most), ("x + y", -most, -1, GREAT),
            ("x + y", -most, 1, -most + 1), ("x - y", -most, 0, -most), ("x - y", -most, 1, GREAT), ("x - y", most, -1, GREAT),
            ("x - y", most, most, 0), ("x * y", 10 ** 20, 10 ** 19, 10 ** 39), ("x * y", 10 ** 20, 10 ** 20, GREAT),
            ("x * y", -(10 ** 20), 10 ** 20, GREAT), ("x * y", most, 1, most), ("x * y", most, -1, -most),
            ("x * y", most, most, GREAT), ("x * y", most, 0, 0), ("x / y", most, -1, -most), ("x / y", -most, 2, -most // 2),
            ("x mod y", -1, most, most - 1), ("x < y", most, -most, False), ("x == y", most, most, True),
        ):
            self.tells(text, result, {"x": one, "y": other})
        self.tells("9999999999999999999999999999999999999999", most)
        self.tells("9999999999999999999999999999999999999999 + 1", GREAT)

    def test_great_lists(self):
        # A LIST of n integers has a WEIGHT of n + 1.
        self.tells("x + y", (1,) * 199, {"x": (1,) * 100, "y": (1,) * 99})
        self.tells("x + y", GREAT, {"x": (1,) * 100, "y": (1,) * 100})
        self.tells("x + y", (1,) * 199, {"x": (1,) * 199, "y": ()})
        self.tells("x + y", GREAT, {"x": (1,) * 199, "y": (True,)})
        self.tells("[ x ]", ((1,) * 198,), {"x": (1,) * 198})
        self.tells("[ x ]", GREAT, {"x": (1,) * 199})
        self.tells("[ x , 1 ]", ((1,) * 197, 1), {"x": (1,) * 197})
        self.tells("[ 1 , x ]", GREAT, {"x": (1,) * 198})
        self.tells("[ x , y ]", ((1,) * 98, (1,) * 99), {"x": (1,) * 98, "y": (1,) * 99})
        self.tells("[ x , y ]", GREAT, {"x": (1,) * 99, "y": (1,) * 99})
        many = "[ " + " , ".join(["1"] * 199) + " ]"
        self.tells(many, (1,) * 199)
        self.tells(many.replace("]", ", 1 ]"), GREAT)
        self.tells("rest ( x )", (1,) * 198, {"x": (1,) * 199})

    def test_deep_lists(self):
        deep = ()
        for _ in range(198):
            deep = (deep,)
        self.tells("[ x ]", (deep,), {"x": deep})
        self.tells("[ [ x ] ]", GREAT, {"x": deep})
        self.tells("x == y", True, {"x": deep, "y": (deep[0],)})

    def test_a_fault_in_a_part_comes_ahead_of_a_wrong_kind_in_another(self):
        for operator in INTEGER_OPERATORS + ("+", "=="):
            self.tells(f"true {operator} ( 1 / 0 )", ZERO)
            self.tells(f"( 1 / 0 ) {operator} true", ZERO)
            self.tells(f"first ( [ ] ) {operator} ( 1 / 0 )", EMPTY)
            self.tells(f"( 1 / 0 ) {operator} first ( [ ] )", ZERO)
        self.tells("[ 1 , first ( [ ] ) , 1 / 0 ]", EMPTY)
        self.tells("[ 1 + true , 1 / 0 ]", KIND)
        self.tells("size ( 1 / 0 )", ZERO)
        self.tells("first ( [ 1 / 0 ] )", ZERO)
        self.tells("let z = 1 / 0 in first ( [ ] )", ZERO)
        self.tells("let z = 1 in first ( [ ] )", EMPTY)
        self.tells("if 1 / 0 then first ( [ ] ) else 1", ZERO)

    def test_the_first_part_of_logic_is_looked_at_ahead_of_the_second_one(self):
        for operator in ("and", "or"):
            self.tells(f"1 {operator} ( 1 / 0 )", KIND)
            self.tells(f"( 1 / 0 ) {operator} 1", ZERO)
            self.needs(f"g ( ) {operator} 1", ("g", ()))
            self.tells(f"[ ] {operator} g ( )", KIND)
        self.tells("true and ( 1 / 0 == 1 )", ZERO)
        self.tells("false or ( 1 / 0 == 1 )", ZERO)

    def test_what_is_not_evaluated(self):
        self.tells("if true then 1 else 1 / 0", 1)
        self.tells("if false then g ( ) else 2", 2)
        self.tells("if true then 1 else g ( )", 1)
        self.tells("if 1 then g ( ) else g ( )", KIND)
        self.tells("false and g ( )", False)
        self.tells("true or g ( )", True)
        self.tells("false and 1 / 0", False)
        self.tells("true or 1 / 0", True)
        self.tells("false and 1", False)
        self.tells("1 and g ( )", KIND)
        self.tells("[ 1 / 0 , g ( ) ]", ZERO)
        self.tells("h ( 1 / 0 , g ( ) )", ZERO)
        self.tells("1 / 0 + g ( )", ZERO)
        self.needs("true and g ( )", ("g", ()))
        self.needs("false or g ( )", ("g", ()))
        self.needs("true + g ( )", ("g", ()))
        self.needs("if g ( ) then 1 / 0 else 1", ("g", ()))


class NotesTest(BodiesTest):
    ONE, TRUE, ZERO_CALL = ("g", (1,)), ("g", (True,)), ("g", (0,))
    NOTES = ((TRUE, 20), (ONE, 10), (("h", ()), KIND), (ZERO_CALL, ()), (("i", ((1, True),)), True))

    def test_calls_that_are_equal_but_not_alike(self):
        self.tells("g ( 1 )", 10, notes=self.NOTES, callees=(self.ONE,))
        self.tells("g ( true )", 20, notes=self.NOTES, callees=(self.TRUE,))
        self.tells("[ g ( 1 ) , g ( true ) ]", (10, 20), notes=self.NOTES, callees=(self.ONE, self.TRUE))
        self.tells("[ g ( true ) , g ( 1 ) ]", (20, 10), notes=self.NOTES, callees=(self.TRUE, self.ONE))
        self.needs("g ( false )", ("g", (False,)), notes=self.NOTES)
        self.needs("[ g ( 0 ) , g ( false ) ]", ("g", (False,)), notes=self.NOTES, callees=(self.ZERO_CALL,))
        self.needs("i ( [ 1 , 1 ] )", ("i", ((1, 1),)), notes=self.NOTES)
        self.needs("i ( [ true , true ] )", ("i", ((True, True),)), notes=self.NOTES)
        self.tells("i ( [ 1 , true ] )", True, notes=self.NOTES, callees=(self.NOTES[4][0],))

    def test_callees_stand_in_the_order_in_which_they_were_first_taken(self):
        one, true, zero = self.ONE, self.TRUE, self.ZERO_CALL
        self.tells("[ g ( 0 ) , g ( 1 ) , g ( 0 ) , g ( true ) , g ( 1 ) ]", ((), 10, (), 20, 10), notes=self.NOTES,
                   callees=(zero, one, true))
        self.tells("if g ( true ) == 20 then g ( 1 ) else g ( 0 )", 10, notes=self.NOTES, callees=(true, one))
        self.tells("let z = g ( 1 ) in z + g ( true ) + z", 40, notes=self.NOTES, callees=(one, true))
        self.needs("g ( g ( 1 ) )", ("g", (10,)), notes=self.NOTES, callees=(one,))
        self.needs("[ g ( 1 ) , g ( true ) , g ( 1 ) , k ( ) , g ( 0 ) ]", ("k", ()), notes=self.NOTES, callees=(one, true))

    def test_a_callee_is_as_the_notes_have_it(self):
        call = ("g", (10 ** 30 + int("1"),))
        taken = evaluated(body("g ( x )"), {"x": 10 ** 30 + 1}, ((call, 1),))[2]
        self.assertIs(taken[0], call)

    def test_a_fault_that_is_taken_ends_it(self):
        self.tells("h ( ) + true", KIND, notes=self.NOTES, callees=(("h", ()),))
        self.tells("[ g ( 1 ) , h ( ) , k ( ) ]", KIND, notes=self.NOTES, callees=(self.ONE, ("h", ())))
        for fault in (KIND, ZERO, EMPTY, GREAT, COUNT):
            self.tells("h ( ) == h ( )", fault, notes=((("h", ()), fault),), callees=(("h", ()),))
            self.tells("true or h ( )", True, notes=((("h", ()), fault),))
            self.tells("let z = h ( ) in 1", fault, notes=((("h", ()), fault),), callees=(("h", ()),))

    def test_arguments_are_evaluated_first(self):
        self.needs("k ( g ( 1 ) , [ x ] )", ("k", (10, (0,))), notes=self.NOTES, callees=(self.ONE,))
        self.needs("k ( a ( ) , b ( ) )", ("a", ()), notes=self.NOTES)
        self.needs("a ( ) + b ( )", ("a", ()), notes=self.NOTES)
        self.needs("[ 1 , b ( ) , a ( ) ]", ("b", ()), notes=self.NOTES)
        self.needs("k ( )", ("k", ()))

    def test_a_value_like_a_word_is_no_end(self):
        self.tells("[ x , y ]", ((), 1), {"x": (), "y": 1})
        self.tells("g ( 0 )", ((1,), 1), notes=((self.ZERO_CALL, ((1,), 1)),), callees=(self.ZERO_CALL,))


class WorkedOutTest(unittest.TestCase):
    PROGRAM = read_program("fun f ( x , y ) = x - g ( y ) ; fun g ( x ) = if x then 1 else g ( true ) ; fun n ( ) = g ( 1 ) ;")

    def check(self, call, notes, told):
        with self.subTest(call=call, notes=notes):
            self.assertEqual(repr(worked_out(self.PROGRAM, call, notes)), repr(told))

    def test_parameters_stand_for_their_values(self):
        g = ("g", (3,))
        self.check(("f", (7, 3)), (), ("needs", g, ()))
        self.check(("f", (7, 3)), ((g, 2),), ("result", 5, (g,)))
        self.check(("f", (3, 7)), ((g, 2),), ("needs", ("g", (7,)), ()))
        self.check(("f", (True, 3)), ((g, 2),), ("result", KIND, (g,)))
        self.check(("g", (True,)), (), ("result", 1, ()))
        self.check(("g", (False,)), (), ("needs", ("g", (True,)), ()))
        self.check(("g", (1,)), (), ("result", KIND, ()))
        self.check(("n", ()), ((("g", (True,)), 4),), ("needs", ("g", (1,)), ()))
        self.check(("n", ()), ((("g", (True,)), 4), (("g", (1,)), KIND)), ("result", KIND, (("g", (1,)),)))

    def test_the_call_itself_among_the_notes_means_nothing(self):
        self.check(("g", (True,)), ((("g", (True,)), 99),), ("result", 1, ()))

    def test_count(self):
        for call in (("h", ()), ("h", (1, 2)), ("f", ()), ("f", (1,)), ("f", (1, 2, 3)), ("n", (1,)), ("n", ((),)), ("g", ())):
            self.check(call, (), ("result", COUNT, ()))
            self.check(call, ((("g", (3,)), 2), (call, 1)), ("result", COUNT, ()))

    def test_a_call_that_has_no_function_is_needed_all_the_same(self):
        program = read_program("fun f ( ) = h ( 1 ) + f ( 2 ) ;")
        self.assertEqual(worked_out(program, ("f", ()), ()), ("needs", ("h", (1,)), ()))
        notes = ((("h", (1,)), 5),)
        self.assertEqual(worked_out(program, ("f", ()), notes), ("needs", ("f", (2,)), (("h", (1,)),)))
        notes = notes + ((("f", (2,)), COUNT),)
        self.assertEqual(worked_out(program, ("f", ()), notes), ("result", COUNT, (("h", (1,)), ("f", (2,)))))

    def test_names_are_the_function_s_own(self):
        program = read_program("fun f ( x ) = let y = x in g ( y ) ; fun g ( y ) = let x = y + 1 in x ;")
        self.assertEqual(worked_out(program, ("g", (4,)), ()), ("result", 5, ()))
        self.assertEqual(worked_out(program, ("f", (4,)), ((("g", (4,)), 5),)), ("result", 5, (("g", (4,)),)))

    def test_nothing_that_is_passed_is_changed(self):
        names = {"x": (1,), "y": 2}
        notes = ((("g", (1,)), 1),)
        kept = copy.deepcopy((names, notes, self.PROGRAM))
        evaluated(body("let x = y in let z = x in [ x , z , g ( 1 ) , k ( z ) ]"), names, notes)
        worked_out(self.PROGRAM, ("f", (1, 2)), notes)
        self.assertEqual(repr((names, notes, self.PROGRAM)), repr(kept))

    def test_equal_arguments_give_equal_results(self):
        for _ in range(2):
            self.check(("g", (True,)), (), ("result", 1, ()))
            self.check(("g", (1,)), (), ("result", KIND, ()))

    def test_an_expression_of_twenty_levels_and_more(self):
        for depth in (20, 60):
            expression = ("name", "x")
            for _ in range(depth):
                expression = ("if", ("truth", True), ("let", "x", expression, ("name", "x")), ("number", 0))
            self.assertEqual(evaluated(expression, {"x": 3}, ()), ("result", 3, ()))
