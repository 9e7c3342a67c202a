"""[13], with the definitions in [2]."""

import unittest

from askorhold.errors import NoFunction
from askorhold.trees import (
    changed_names, depth_of, free_names, function_of, is_expression, is_function, is_program, lets_deep, names_called,
    with_function, without_function,
)
from things import ANY, deep

KEYWORDS = "fun let in if then else and or mod true false first rest size".split()
OPERATORS = ("or", "and", "==", "<", "<=", "+", "-", "*", "/", "mod")
ONE = ("number", 1)
YES = ("truth", True)
A = ("name", "a")
B = ("name", "b")
LET = ("let", "a", ONE, A)
IF = ("if", YES, ONE, A)
CALL = ("call", "f", (ONE, A))
LIST = ("list", (ONE, A))
TWO = ("two", "+", ONE, A)
SIZE = ("one", "size", A)
KINDS = (ONE, YES, A, CALL, LIST, IF, LET, SIZE, TWO)
# What can stand nowhere in an EXPRESSION in the place of an EXPRESSION.
NO_EXPRESSIONS = (
    None, 1, True, "a", (), (1,), ("number",), [*ONE], ("number", True), ("name", "if"), {}, [], ("none", 1), (ONE,),
    ("number", 1, 1), ("fault", "kind"),
)


def let(name, one, other):
    return ("let", name, one, other)


def chain(many):
    expression = A
    for _ in range(many):
        expression = ("two", "-", expression, ONE)
    return expression


class IsExpressionTest(unittest.TestCase):
    def right(self, *things):
        for thing in things:
            with self.subTest(thing=thing):
                self.assertIs(is_expression(thing), True)

    def wrong(self, *things):
        for thing in things:
            with self.subTest(thing=thing):
                self.assertIs(is_expression(thing), False)

    def test_each_kind(self):
        self.right(*KINDS)

    def test_any_value(self):
        for tell in (is_expression, is_function, is_program):
            for thing in ANY:
                with self.subTest(tell=tell.__name__, thing=thing):
                    self.assertIs(tell(thing), False)

    def test_each_kind_as_a_list_too_short_too_long_or_of_another_kind(self):
        for kind in KINDS:
            self.wrong(list(kind), kind[:-1], kind + (ONE,), kind + (kind[-1],), kind[:1], (list(kind[:1]),) + kind[1:])
            for word in ("numbers", "", "Number", "two", None, 1, "call" if kind[0] != "call" else "let", ("number",)):
                if word != kind[0]:
                    self.wrong((word,) + kind[1:])

    def test_each_part_is_an_expression(self):
        for bad in NO_EXPRESSIONS:
            self.wrong(
                bad, ("call", "f", (bad,)), ("call", "f", (ONE, bad)), ("list", (bad,)), ("list", (A, bad, A)),
                ("if", bad, A, A), ("if", A, bad, A), ("if", A, A, bad), let("a", bad, A), let("a", A, bad),
                ("one", "first", bad), ("two", "+", bad, A), ("two", "+", A, bad), ("list", (("list", (bad,)),)),
            )

    def test_parts_of_every_kind(self):
        for part in KINDS:
            self.right(
                ("call", "g", (part,)), ("list", (part, part)), ("if", part, part, part), let("b", part, part),
                ("one", "rest", part), ("two", "mod", part, part),
            )

    def test_numbers(self):
        self.right(("number", 0), ("number", 10 ** 39), ("number", 10 ** 40 - 1))
        self.wrong(("number", 10 ** 40), ("number", -1), ("number", True), ("number", False), ("number", "1"), ("number", None))
        self.wrong(("number", (1,)), ("number", [1]), ("number", 1.0))

    def test_truths(self):
        self.right(("truth", True), ("truth", False))
        self.wrong(("truth", 1), ("truth", 0), ("truth", "true"), ("truth", None), ("truth", [True]))

    def test_names(self):
        bad = KEYWORDS + ["", "A", "aB", "a1", "a" * 13, None, 1, ("a",), ["a"], {}, "a b"]
        for name in bad:
            self.wrong(("name", name), ("call", name, ()), let(name, ONE, ONE))
        for name in ("a", "z" * 12, "fault", "number"):
            self.right(("name", name), ("call", name, ()), let(name, ONE, ONE))

    def test_tuples_of_parts(self):
        self.right(("call", "f", ()), ("list", ()))
        for bad in ([], [ONE], None, 1, ONE, {}, "", {ONE: ONE}, "ab", True):
            self.wrong(("call", "f", bad), ("list", bad))

    def test_words(self):
        self.right(*[("one", word, A) for word in ("first", "rest", "size")])
        self.right(*[("two", word, A, ONE) for word in OPERATORS])
        self.wrong(*[("one", word, A) for word in ("last", "", "mod", "First", None, 1, ["first"], ("first",), {})])
        self.wrong(*[("two", word, A, A) for word in (">", "!=", "=", "", "first", ">=", None, 1, ["+"], ("+",), {}, "AND")])

    def test_deep_ones(self):
        self.right(chain(5000))
        self.wrong(deep(5000, list), deep(5000, tuple))

    def test_names_stand_for_whatever_they_want(self):
        self.right(("name", "nowhere"), let("a", A, B))


class IsFunctionTest(unittest.TestCase):
    def right(self, *things):
        for thing in things:
            with self.subTest(thing=thing):
                self.assertIs(is_function(thing), True)

    def wrong(self, *things):
        for thing in things:
            with self.subTest(thing=thing):
                self.assertIs(is_function(thing), False)

    def test_each_kind_of_expression(self):
        for kind in KINDS:
            self.right(("f", ("a",), kind), ("f", ("b", "a", "c"), kind))

    def test_shape(self):
        self.right(("f", (), ONE), ("abcdefghijkl", ("abcdefghijkl",), ("name", "abcdefghijkl")))
        self.wrong(["f", (), ONE], ("f", [], ONE), ("f", ONE), ("f", (), ONE, ONE), ("f", (), ()), ("f", (), 1), ("f", None, ONE))
        self.wrong(("f", "a", A), ("f", ("a",), list(A)), (), ("f",), (("f",), (), ONE))
        for bad in KEYWORDS + ["", "A", "a" * 13, None, 1, ["f"], ("f",)]:
            self.wrong((bad, (), ONE), ("f", (bad,), ONE), ("f", ("a", bad), ONE))

    def test_parameters_are_unlike(self):
        self.right(("f", ("a", "b"), ONE))
        self.wrong(("f", ("a", "a"), ONE), ("f", ("a", "b", "a"), ONE))

    def test_each_name_stands_for_something(self):
        self.right(("f", ("a",), A), ("f", (), let("a", ONE, A)), ("f", (), let("a", ONE, let("b", A, ("two", "+", A, B)))))
        self.right(("f", ("a",), let("a", A, A)), ("f", (), let("a", ONE, let("a", A, A))), ("f", ("f",), ("name", "f")))
        self.wrong(("f", (), A), ("f", ("b",), A), ("f", (), let("a", A, A)), ("f", (), let("a", A, ONE)))
        self.wrong(("f", (), let("b", let("a", ONE, A), A)), ("f", (), ("list", (let("a", ONE, A), A))), ("f", (), ("name", "f")))
        self.wrong(("f", (), ("call", "a", (A,))), ("f", (), ("two", "+", let("a", ONE, ONE), A)))
        for kind in KINDS:
            if kind not in (ONE, YES, LET):
                self.wrong(("f", (), kind), ("f", ("b",), kind))

    def test_calls_may_name_what_is_not_there(self):
        self.right(("f", (), ("call", "nowhere", ())))


class IsProgramTest(unittest.TestCase):
    def test_programs(self):
        f, g = ("f", ("a",), A), ("g", (), ("call", "h", ()))
        for thing in ((f,), (f, g), (g, f), tuple((chr(97 + k) * 3, (), ONE) for k in range(20))):
            with self.subTest(thing=thing):
                self.assertIs(is_program(thing), True)
        wrong = (
            (), [f], f, (f, f), (f, g, ("f", (), ONE)), (f, None), (f, ["g", (), ONE]), (("g", (), A),), (f, ("g", (), A)),
            ((f,),), None, {f: f}, (f, ()), ONE,
        )
        for thing in wrong:
            with self.subTest(thing=thing):
                self.assertIs(is_program(thing), False)


class MeasuresTest(unittest.TestCase):
    def test_depth_of(self):
        for expression, depth in (
            (ONE, 1), (YES, 1), (A, 1), (("call", "f", ()), 1), (("list", ()), 1), (CALL, 2), (LIST, 2), (IF, 2), (LET, 2),
            (SIZE, 2), (TWO, 2), (("list", (ONE, LIST, ONE)), 3), (("if", ONE, ONE, TWO), 3), (("if", TWO, ONE, ONE), 3),
            (let("a", TWO, ONE), 3), (let("a", ONE, TWO), 3), (("two", "+", TWO, ONE), 3), (("two", "+", ONE, SIZE), 3),
            (("one", "size", ("one", "first", LIST)), 4), (chain(12), 13), (chain(5000), 5001),
        ):
            self.assertEqual(depth_of(expression), depth)

    def test_free_names(self):
        c = ("name", "c")
        for expression, names in (
            (ONE, ()), (A, ("a",)), (("list", (B, A, B)), ("a", "b")), (CALL, ("a",)), (("call", "b", ()), ()), (IF, ("a",)),
            (LET, ()), (let("a", A, A), ("a",)), (let("a", A, ONE), ("a",)), (let("a", B, A), ("b",)), (let("b", A, A), ("a",)),
            (let("a", let("b", ONE, B), B), ("b",)), (let("a", ONE, let("b", A, ("two", "+", A, B))), ()),
            (let("a", ONE, let("a", A, A)), ()), (("two", "+", LET, A), ("a",)), (let("b", c, ("list", (A, B, c))), ("a", "c")),
            (("if", c, B, A), ("a", "b", "c")), (SIZE, ("a",)),
        ):
            with self.subTest(expression=expression):
                self.assertEqual(free_names(expression), names)

    def test_names_called(self):
        g = ("call", "g", ())
        for expression, names in (
            (A, ()), (ONE, ()), (CALL, ("f",)), (("call", "z", (g, CALL)), ("f", "g", "z")), (("list", (g, g)), ("g",)),
            (("if", g, CALL, ("call", "b", ())), ("b", "f", "g")), (let("a", g, CALL), ("f", "g")), (("one", "size", g), ("g",)),
            (("two", "+", CALL, g), ("f", "g")), (let("a", ONE, ONE), ()),
        ):
            with self.subTest(expression=expression):
                self.assertEqual(names_called(expression), names)

    def test_lets_deep(self):
        for expression, lets in (
            (ONE, 0), (TWO, 0), (LET, 1), (let("a", LET, ONE), 2), (let("a", ONE, LET), 2), (let("a", LET, LET), 2),
            (("two", "+", LET, LET), 1), (("list", (LET, let("b", ONE, LET), ONE)), 2), (("if", ONE, ONE, LET), 1),
            (let("a", ("list", (ONE, ("one", "size", LET))), ONE), 2), (let("a", ONE, let("a", LET, ONE)), 3),
            (("call", "f", (LET,)), 1),
        ):
            with self.subTest(expression=expression):
                self.assertEqual(lets_deep(expression), lets)


class ProgramsTest(unittest.TestCase):
    F, G, H = ("f", ("a",), A), ("g", (), ONE), ("h", (), ("call", "g", ()))

    def test_function_of(self):
        program = (self.F, self.G)
        self.assertEqual(function_of(program, "f"), self.F)
        self.assertEqual(function_of(program, "g"), self.G)

    def test_no_function_with_any_value_as_name(self):
        for name in ANY + ("h", "", "if", [self.F], {}, {"f": 1}, ("f",), ["f"]):
            for call in (function_of, without_function):
                with self.subTest(name=name, call=call.__name__):
                    with self.assertRaises(NoFunction) as caught:
                        call((self.F, self.G), name)
                    self.assertIs(caught.exception.name, name)

    def test_with_function(self):
        other = ("g", ("b",), B)
        self.assertEqual(with_function((self.F, self.G, self.H), other), (self.F, other, self.H))
        self.assertEqual(with_function((self.G,), other), (other,))
        self.assertEqual(with_function((self.F, self.H), other), (self.F, self.H, other))
        self.assertEqual(with_function((self.F, self.G), self.G), (self.F, self.G))

    def test_without_function(self):
        program = (self.F, self.G, self.H)
        self.assertEqual(without_function(program, "g"), (self.F, self.H))
        self.assertEqual(without_function(program, "f"), (self.G, self.H))
        self.assertEqual(without_function(program, "h"), (self.F, self.G))
        self.assertEqual(program, (self.F, self.G, self.H))

    def test_changed_names(self):
        other = ("g", (), ("truth", True))
        for one, two, names in (
            ((self.F,), (self.F,), ()), ((self.F, self.G), (self.G, self.F), ()), ((self.F, self.G), (self.F,), ("g",)),
            ((self.H, self.G), (other, self.F), ("f", "g", "h")), ((self.F, self.G), (self.F, other), ("g",)),
            ((self.F,), (("f", ("b",), B),), ("f",)), ((("g", ("a", "b"), ONE),), (("g", ("b", "a"), ONE),), ("g",)),
            ((self.H, self.F), (self.G,), ("f", "g", "h")),
        ):
            with self.subTest(one=one, two=two):
                self.assertEqual(changed_names(one, two), names)
                self.assertEqual(changed_names(two, one), names)
