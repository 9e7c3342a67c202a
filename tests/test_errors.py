"""[11], and the rules for errors in [4]."""

import unittest

from askorhold import errors
from askorhold.errors import (
    AskError, Cannot, Contrary, Endless, NoCommand, NoFunction, Nothing, NothingToAsk, NoTree, TooMany, Wrong,
)

FIELDS = (
    (Wrong, "place"), (NoTree, "place"), (TooMany, "most"), (Endless, "call"), (NoFunction, "name"),
    (Cannot, "deed"), (Contrary, "call"), (NoCommand, "line"),
)
BARE = (NothingToAsk, Nothing)
CLASSES = tuple(pair[0] for pair in FIELDS) + BARE


class Thing:
    pass


class ErrorsTest(unittest.TestCase):
    def test_there_are_ten_and_the_one_above_them(self):
        self.assertEqual(len(set(CLASSES)), 10)
        found = [thing for thing in vars(errors).values() if isinstance(thing, type)]
        self.assertEqual(set(found), set(CLASSES) | {AskError})

    def test_each_is_a_subclass_of_ask_error_and_of_no_other_one(self):
        for one in CLASSES:
            with self.subTest(one=one.__name__):
                self.assertTrue(issubclass(one, AskError))
                self.assertFalse(issubclass(AskError, one))
                self.assertEqual([other for other in CLASSES if issubclass(one, other)], [one])

    def test_ask_error_is_a_value_error(self):
        self.assertTrue(issubclass(AskError, ValueError))
        self.assertEqual(AskError.__bases__, (ValueError,))

    def test_the_field_is_the_object_itself(self):
        row = [1, [2]]
        things = (
            None, True, 0, -1, 10 ** 50, "", "a { } b", b"x", row, (row,), {"a": row}, {1: 2}, Thing(), Wrong(0), (),
        )
        for one, field in FIELDS:
            for thing in things:
                with self.subTest(one=one.__name__, thing=thing):
                    self.assertIs(getattr(one(thing), field), thing)

    def test_a_list_that_is_changed_afterwards_is_changed_in_the_field(self):
        for one, field in FIELDS:
            row = [1]
            error = one(row)
            row.append(2)
            self.assertIs(getattr(error, field), row)
            self.assertEqual(getattr(error, field), [1, 2])

    def test_each_can_be_raised_and_caught_by_each_name_above_it(self):
        for one, field in FIELDS:
            for above in (one, AskError, ValueError):
                with self.assertRaises(above) as caught:
                    raise one("x")
                self.assertEqual(getattr(caught.exception, field), "x")
        for one in BARE:
            for above in (one, AskError, ValueError):
                with self.assertRaises(above):
                    raise one()

    def test_no_handler_for_another_class_takes_it(self):
        for one, _ in FIELDS:
            error = one(0)
            for other in CLASSES:
                self.assertEqual(isinstance(error, other), other is one)

    def test_each_has_a_text(self):
        for one, _ in FIELDS:
            self.assertIsInstance(str(one(["x"])), str)
            self.assertIsInstance(repr(one(["x"])), str)
        for one in BARE:
            self.assertIsInstance(str(one()), str)
