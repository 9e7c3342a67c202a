"""[14]: texts of programs."""

import unittest

from askorhold.shower import show_expression, show_function, show_program

ONE = ("number", 1)
A = ("name", "a")
CALL = ("call", "f", (ONE, A))
LIST = ("list", (ONE, A))
IF = ("if", ("truth", True), ONE, A)
LET = ("let", "b", ONE, A)
SIZE = ("one", "size", A)
TWO = ("two", "<", ONE, A)
OPERATORS = ("or", "and", "==", "<", "<=", "+", "-", "*", "/", "mod")
# Each kind with its text, and whether it wants brackets as one of the two E's of a "two".
TEXTS = (
    (ONE, "1", False), (A, "a", False), (("truth", True), "true", False), (("truth", False), "false", False),
    (CALL, "f ( 1 , a )", False), (LIST, "[ 1 , a ]", False), (SIZE, "size ( a )", False),
    (IF, "if true then 1 else a", True), (LET, "let b = 1 in a", True), (TWO, "1 < a", True),
)


class ShowerTest(unittest.TestCase):
    def test_each_kind(self):
        for expression, text, _ in TEXTS:
            self.assertEqual(show_expression(expression), text)

    def test_numbers(self):
        for number in (0, 7, 10, 10 ** 39, 10 ** 40 - 1):
            self.assertEqual(show_expression(("number", number)), str(number))

    def test_with_and_without_parts(self):
        self.assertEqual(show_expression(("call", "f", ())), "f ( )")
        self.assertEqual(show_expression(("list", ())), "[ ]")
        self.assertEqual(show_expression(("call", "f", (A,))), "f ( a )")
        self.assertEqual(show_expression(("list", (A,))), "[ a ]")
        self.assertEqual(show_expression(("list", (("list", ()), ("call", "g", ()), A))), "[ [ ] , g ( ) , a ]")

    def test_each_word_of_one(self):
        for word in ("first", "rest", "size"):
            self.assertEqual(show_expression(("one", word, LIST)), f"{word} ( [ 1 , a ] )")

    def test_each_operator(self):
        for operator in OPERATORS:
            self.assertEqual(show_expression(("two", operator, ONE, A)), f"1 {operator} a")

    def test_brackets_in_a_two(self):
        for expression, text, wanted in TEXTS:
            inner = f"( {text} )" if wanted else text
            for operator in OPERATORS:
                self.assertEqual(show_expression(("two", operator, expression, ONE)), f"{inner} {operator} 1")
                self.assertEqual(show_expression(("two", operator, ONE, expression)), f"1 {operator} {inner}")

    def test_no_brackets_elsewhere(self):
        for expression, text, _ in TEXTS:
            self.assertEqual(show_expression(("call", "g", (expression, expression))), f"g ( {text} , {text} )")
            self.assertEqual(show_expression(("list", (expression,))), f"[ {text} ]")
            self.assertEqual(show_expression(("one", "rest", expression)), f"rest ( {text} )")
            self.assertEqual(show_expression(("if", expression, ONE, A)), f"if {text} then 1 else a")
            self.assertEqual(show_expression(("if", ONE, expression, A)), f"if 1 then {text} else a")
            self.assertEqual(show_expression(("if", ONE, A, expression)), f"if 1 then a else {text}")
            self.assertEqual(show_expression(("let", "c", expression, A)), f"let c = {text} in a")
            self.assertEqual(show_expression(("let", "c", A, expression)), f"let c = a in {text}")

    def test_brackets_in_brackets(self):
        inner = ("two", "-", ("two", "*", A, ("two", "+", A, ONE)), ("two", "-", ONE, LET))
        self.assertEqual(show_expression(inner), "( a * ( a + 1 ) ) - ( 1 - ( let b = 1 in a ) )")
        self.assertEqual(show_expression(("two", "+", ("list", (TWO,)), IF)), "[ 1 < a ] + ( if true then 1 else a )")

    def test_functions(self):
        self.assertEqual(show_function(("f", (), ONE)), "fun f ( ) = 1 ;")
        self.assertEqual(show_function(("f", ("a",), A)), "fun f ( a ) = a ;")
        self.assertEqual(show_function(("f", ("a", "b", "c"), TWO)), "fun f ( a , b , c ) = 1 < a ;")
        for expression, text, _ in TEXTS:
            self.assertEqual(show_function(("g", ("a",), expression)), f"fun g ( a ) = {text} ;")

    def test_programs(self):
        one, other = ("f", (), ONE), ("g", ("a",), IF)
        self.assertEqual(show_program((one,)), "fun f ( ) = 1 ;")
        self.assertEqual(show_program((one, other)), "fun f ( ) = 1 ;\nfun g ( a ) = if true then 1 else a ;")
        self.assertEqual(show_program((other, one)), "fun g ( a ) = if true then 1 else a ;\nfun f ( ) = 1 ;")

    def test_a_long_chain(self):
        expression, words = A, ["a"]
        for _ in range(700):
            expression, words = ("two", "-", expression, ONE), ["("] + words + [")", "-", "1"] if len(words) > 1 else ["a", "-", "1"]
        self.assertEqual(show_expression(expression), " ".join(words))
