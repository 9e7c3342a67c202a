"""[12], with the definitions in [2]."""

import unittest

from askorhold.forms import (
    are_alike, are_alike_calls, digits_of, is_call, is_fault, is_integer, is_lot, is_name, is_notes, is_result,
    is_value, result_in, weight,
)
from things import ANY, deep

KEYWORDS = "fun let in if then else and or mod true false first rest size".split()
WORDS = ("kind", "zero", "empty", "great", "count")
ONE = ("f", (1,))
TRUE = ("f", (True,))


class IsTest(unittest.TestCase):
    def check(self, tell, right, wrong):
        for thing in right:
            with self.subTest(tell=tell.__name__, thing=thing):
                self.assertIs(tell(thing), True)
        for thing in wrong:
            with self.subTest(tell=tell.__name__, thing=thing):
                self.assertIs(tell(thing), False)

    def test_each_takes_any_value_and_returns_a_truth(self):
        for tell in (is_integer, is_name, is_lot, is_value, is_fault, is_result, is_call, is_notes):
            for thing in ANY:
                self.assertIn(tell(thing), (True, False))
                self.assertIsInstance(tell(thing), bool)

    def test_is_integer(self):
        self.check(is_integer, (0, 1, -1, 10 ** 50), (True, False, None, "1", (1,), [1], 1.0, {}))

    def test_is_name(self):
        right = ("a", "z", "abc", "abcdefghijkl", "funn", "i", "ifs", "fault", "result")
        wrong = ("", "abcdefghijklm", "A", "aB", "a1", "1", "a_", "a b", " a", "a\n", "-", "é", "`", "{", None, 1, True)
        self.check(is_name, right, wrong + (("a",), ["a"], b"a", {}))
        self.check(is_name, (), KEYWORDS)
        self.check(is_name, ("a" * 12,), ("a" * 13,))

    def test_is_lot(self):
        right = ((), (0,), (0, 1, 5), (10 ** 49,), tuple(range(60)))
        wrong = (
            (1, 0), (0, 0), (0, 2, 2), (-1,), (-1, 0), (True,), (False,), (0, True), (False, 1), [0], [], None, 0, "01",
            ("0",), ((0,),), (0, None), {0: 1}, (0, 1, 1), (0, 3, 2),
        )
        self.check(is_lot, right, wrong)

    def test_is_value(self):
        right = (0, -7, True, False, (), ((),), (1, True, (False, (-2,))), 10 ** 49, deep(200, tuple))
        wrong = (None, "a", [], [1], (1, [2]), (1, (2, None)), ("fault", "zero"), {}, ({},), 1.0, (1, "a"), deep(200, list))
        self.check(is_value, right, wrong)

    def test_is_value_at_any_depth(self):
        self.check(is_value, (deep(5000, tuple),), ((deep(5000, tuple), None), deep(5000, list)))

    def test_is_fault(self):
        self.check(is_fault, [("fault", word) for word in WORDS], ("fault", ("fault", "none"), ("fault",), (), ("fault", True)))
        self.check(is_fault, (), (["fault", "kind"], ("Fault", "kind"), ("kind", "fault"), ("fault", "kind", 1), None, 1))

    def test_is_result(self):
        right = [("fault", word) for word in WORDS] + [1, True, (), (1, (True,))]
        self.check(is_result, right, (("fault", "none"), None, [1], "kind", (("fault", "kind"),), (1, ("fault", "kind"))))

    def test_is_call(self):
        right = (("f", ()), ("f", (1,)), ("f", (True, (1, ()))), ("abcdefghijkl", (-1,)))
        wrong = (
            ("if", ()), ("F", ()), ("f",), ("f", (), ()), ("f", []), ["f", ()], ("f", 1), ("f", (None,)), (1, ()),
            ("f", ([],)), ("f", ("fault", "kind")), ("abcdefghijklm", ()), (), None, "f", ("f", True), (("f",), ()),
        )
        self.check(is_call, right, wrong)

    def test_is_notes(self):
        right = (
            (), ((ONE, 5),), ((ONE, 5), (TRUE, 5)), ((ONE, ("fault", "kind")), (("f", ()), ())),
            ((("f", ((1,),)), 1), (("f", ((True,),)), 1)), ((("f", (0,)), 1), (("f", (False,)), 1), (("g", (0,)), 1)),
            ((("f", (1, ())), 1), (("f", ((1,),)), 1), (("f", ((), 1)), 1), (("f", ((1, ()),)), 1)),
        )
        wrong = (
            ((ONE, 5), (("f", (1,)), 6)), ((TRUE, 5), (ONE, 1), (("f", (True,)), 5)), [(ONE, 5)], ([ONE, 5],), ((ONE,),),
            ((ONE, 5, ()),), ((ONE, None),), ((ONE, "fault"),), ((("if", ()), 1),), (ONE, 5), ((ONE, [1]),), ((5, ONE),),
            ((("f", [1]), 5),), ((ONE, ("fault", "none")),), None, 1, (None,), ((),), {ONE: 5},
        )
        self.check(is_notes, right, wrong)


class AlikeTest(unittest.TestCase):
    def test_are_alike(self):
        things = (
            0, 1, -1, True, False, (), (0,), (1,), (True,), (False,), ((),), ((), ()), (1, ()), ((1,),), ((True,),), (1, 1),
            (1, True), (True, 1), ((1, 1),), ((1,), 1), (1, (1,)), 10 ** 39,
        ) + tuple(("fault", word) for word in WORDS)
        for at, one in enumerate(things):
            for place, other in enumerate(things):
                with self.subTest(one=one, other=other):
                    self.assertIs(are_alike(one, other), at == place)

    def test_equal_things_that_are_two_objects_are_alike(self):
        self.assertIs(are_alike(10 ** 39 + 1, 10 ** 39 + int("1")), True)
        self.assertIs(are_alike(("fault", "".join(["ki", "nd"])), ("fault", "kind")), True)
        self.assertIs(are_alike(tuple([1, tuple([True])]), (1, (True,))), True)

    def test_are_alike_in_depth(self):
        one, other = 1, True
        for _ in range(199):
            one, other = (one,), (other,)
        self.assertIs(are_alike(one, other), False)
        self.assertIs(are_alike(one, (one[0],)), True)

    def test_are_alike_calls(self):
        calls = (
            ONE, TRUE, ("g", (1,)), ("f", ()), ("f", (1, 1)), ("f", ((1,),)), ("f", ((True,),)), ("f", (0,)), ("f", (False,)),
            ("f", ((), 1)), ("f", (1, ())), ("f", ((1, ()),)),
        )
        for at, one in enumerate(calls):
            for place, other in enumerate(calls):
                with self.subTest(one=one, other=other):
                    self.assertIs(are_alike_calls(one, other), at == place)

    def test_result_in(self):
        notes = ((ONE, 5), (TRUE, ("fault", "kind")), (("f", ()), ()), (("g", (1,)), False), (("g", (0,)), 0))
        for call, result in notes:
            with self.subTest(call=call):
                found = result_in(notes, (call[0], tuple(list(call[1]))))
                self.assertEqual(repr(found), repr(result))
        for call in (("f", (0,)), ("f", (False,)), ("g", (True,)), ("g", (False,)), ("h", ()), ("f", (1, 1)), ("f", ((1,),))):
            self.assertIsNone(result_in(notes, call))
        self.assertIsNone(result_in((), ONE))


class MeasureTest(unittest.TestCase):
    def test_weight(self):
        for result, many in (
            (7, 1), (-7, 1), (True, 1), (False, 1), ((), 1), ((1,), 2), ((True, 0), 3), (((),), 2), ((1, (2, 3)), 5),
            (((), ((), ())), 5), ((1,) * 199, 200), ((0, (1,) * 199), 202),
        ):
            with self.subTest(result=result):
                self.assertEqual(weight(result), many)
        for word in WORDS:
            self.assertEqual(weight(("fault", word)), 1)
        self.assertEqual(weight(deep(199, tuple)), 200)

    def test_digits_of(self):
        for number, many in (
            (0, 1), (1, 1), (9, 1), (10, 2), (-1, 1), (-9, 1), (-10, 2), (-120, 3), (99, 2), (100, 3), (10 ** 39, 40),
            (10 ** 40 - 1, 40), (10 ** 40, 41), (-(10 ** 40) + 1, 40), (-(10 ** 40), 41), (10 ** 49, 50),
        ):
            with self.subTest(number=number):
                self.assertEqual(digits_of(number), many)
        for number in range(-2000, 2000):
            self.assertEqual(digits_of(number), len(str(abs(number))))
