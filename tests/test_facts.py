"""[36]."""

import itertools
import unittest

from askorhold.books import book_of
from askorhold.errors import Contrary
from askorhold.facts import fact_of, known_right, known_wrong, with_fact
from programs import FAULTS, FIB, KINDS, RUNS

CALLS = (("f", ()), ("f", (1,)), ("f", (True,)), ("f", ((1,),)), ("g", (1,)))
RESULTS = (0, False, 1, True, (), (1, (True,)), (True, (1,)), ("fault", "kind"), ("fault", "zero"))


def plain_fact(facts, call, result):
    """What fact_of tells, word by word; what is ALIKE looks alike."""
    told = [fact for fact in facts if repr(fact[0]) == repr(call)]
    if any(repr(fact[1]) == repr(result) and fact[2] for fact in told):
        return True
    if any(repr(fact[1]) == repr(result) and not fact[2] for fact in told) or any(fact[2] for fact in told):
        return False
    return None


class FactsTest(unittest.TestCase):
    def test_the_examples(self):
        facts = with_fact(with_fact((), ("one", (2,)), 3, False), ("one", (2,)), 2, True)
        self.assertEqual([fact_of(facts, ("one", (2,)), 2), fact_of(facts, ("one", (2,)), 7), fact_of(facts, ("one", (0,)), 1)], [True, False, None])
        self.assertEqual(len(with_fact(facts, ("one", (2,)), 7, False)), 2)
        self.assertEqual(facts, ((("one", (2,)), 3, False), (("one", (2,)), 2, True)))

    def test_nothing_is_told(self):
        for call, result in itertools.product(CALLS, RESULTS):
            self.assertIsNone(fact_of((), call, result))
            self.assertIsNone(fact_of(((("h", ()), 1, True),), call, result))

    def test_a_right_one_bars_all_others_of_alike_calls(self):
        for call, result in itertools.product(CALLS, RESULTS):
            facts = with_fact((), call, result, True)
            self.assertEqual(repr(facts), repr(((call, result, True),)))
            for other_call, other in itertools.product(CALLS, RESULTS):
                told = fact_of(facts, other_call, other)
                self.assertIs(told, plain_fact(facts, other_call, other))
                if other_call is call:
                    self.assertIs(told, other is result)
                else:
                    self.assertIsNone(told)

    def test_a_wrong_one_tells_of_itself_alone(self):
        for call, result in itertools.product(CALLS, RESULTS):
            facts = with_fact((), call, result, False)
            for other_call, other in itertools.product(CALLS, RESULTS):
                self.assertIs(fact_of(facts, other_call, other), False if other_call is call and other is result else None)

    def test_the_facts_as_they_are(self):
        facts = with_fact((), ("f", (1,)), 5, True)
        for call, result, is_right in ((("f", (1,)), 5, True), (("f", (1,)), 6, False), (("f", (1,)), ("fault", "kind"), False)):
            self.assertEqual(with_fact(facts, call, result, is_right), facts)
        facts = with_fact(facts, ("f", (True,)), 6, False)
        self.assertEqual(with_fact(facts, ("f", (True,)), 6, False), facts)
        self.assertEqual(len(facts), 2)

    def test_wrong_ones_stay_and_come_in_the_order_in_which_they_were_told(self):
        facts = ()
        rows = ((("f", ()), 3, False), (("g", ()), 1, True), (("f", ()), True, False), (("f", ()), 1, True), (("h", ()), (), False))
        for many, row in enumerate(rows):
            facts = with_fact(facts, *row)
            self.assertEqual(repr(facts), repr(rows[:many + 1]))
        self.assertEqual([fact_of(facts, ("f", ()), result) for result in (3, True, 1, 4)], [False, False, True, False])

    def test_contrary(self):
        right, wrong = with_fact((), ("f", (1,)), 5, True), with_fact((), ("f", (1,)), 5, False)
        for facts, result, is_right in ((right, 5, False), (right, 6, True), (right, ("fault", "kind"), True), (right, True, True), (wrong, 5, True)):
            call = ("f", (1,))
            with self.assertRaises(Contrary) as caught:
                with_fact(facts, call, result, is_right)
            self.assertIs(caught.exception.call, call)
        self.assertEqual(len(with_fact(wrong, ("f", (1,)), 6, True)), 2)
        self.assertEqual(len(with_fact(right, ("f", (True,)), 6, True)), 2)

    def test_all_rows_of_three_facts(self):
        calls, results = CALLS[1:3], (1, True, ("fault", "kind"))
        every = list(itertools.product(calls, results, (True, False)))
        for row in itertools.product(every, repeat=3):
            facts = ()
            for call, result, is_right in row:
                told = plain_fact(facts, call, result)
                if told is not None and told is not is_right:
                    self.assertRaises(Contrary, with_fact, facts, call, result, is_right)
                    continue
                later = with_fact(facts, call, result, is_right)
                self.assertEqual(repr(later), repr(facts + (((call, result, is_right),) if told is None else ())))
                facts = later
            for call, result in itertools.product(calls, results):
                self.assertIs(fact_of(facts, call, result), plain_fact(facts, call, result))


class KnownTest(unittest.TestCase):
    def test_against_fact_of(self):
        for program, call in RUNS:
            book = book_of(program, call, 60)
            facts = ()
            for at, (noted, result, _) in enumerate(book):
                if at % 4 == 0:
                    facts = with_fact(facts, noted, result, True)
                if at % 4 == 1:
                    facts = with_fact(facts, noted, result, False)
                if at % 4 == 2:
                    facts = with_fact(facts, noted, ("fault", "great"), True)
            right, wrong = known_right(facts, book), known_wrong(facts, book)
            self.assertEqual(right, tuple(at for at in range(len(book)) if at % 4 == 0))
            self.assertEqual(wrong, tuple(at for at in range(len(book)) if at % 4 in (1, 2)))
            self.assertEqual([known_right((), book), known_wrong((), book), known_right(facts, ()), known_wrong(facts, ())], [(), (), (), ()])

    def test_calls_and_results_that_are_equal_but_not_alike(self):
        book = book_of(KINDS, ("pair", ()), 60)
        self.assertEqual(repr([entry[:2] for entry in book]), "[(('same', (True,)), True), (('same', (1,)), 1), (('pair', ()), (True, 1))]")
        for facts, right, wrong in (
            (((("same", (1,)), 1, True),), (1,), ()), (((("same", (True,)), True, True),), (0,), ()), (((("same", (True,)), 1, True),), (), (0,)),
            (((("same", (1,)), True, True),), (), (1,)), (((("pair", ()), (1, 1), True),), (), (2,)), (((("pair", ()), (1, 1), False),), (), ()),
            (((("pair", ()), (True, 1), False),), (), (2,)),
        ):
            self.assertEqual([known_right(facts, book), known_wrong(facts, book)], [right, wrong])

    def test_faults(self):
        book = book_of(FAULTS, ("two", ()), 60)
        facts = ((("none", ((),)), ("fault", "count"), True), (("two", ()), ("fault", "kind"), True))
        self.assertEqual([entry[1] for entry in book], [("fault", "count"), ("fault", "count")])
        self.assertEqual([known_right(facts, book), known_wrong(facts, book)], [(0,), (1,)])

    def test_many_facts(self):
        book = book_of(FIB, ("fib", (9,)), 60)
        facts = ()
        for number in range(200):
            facts = with_fact(facts, ("fib", (number % 20,)), 1000 + number, False)
        self.assertEqual(len(facts), 200)
        facts = with_fact(facts, ("fib", (9,)), 34, True)
        self.assertEqual([known_right(facts, book), known_wrong(facts, book)], [(9,), ()])
