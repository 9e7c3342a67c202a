"""[26], with [23] and [25], and the keys of dicts of [3]."""

import unittest

from askorhold.answerers import answerer, asked_of, is_answerer
from askorhold.least import least_price
from askorhold.webs import below, open_below, shadow, with_known
from shapes import CASES, check_too_many, line, lots, star, web_of_callees
from things import ANY, spoiled_dicts

WEB = (((), 1, 0), ((0,), 1, 0), ((0,), 2, 1), ((1, 2), 1, 0))
SMALL = (
    (WEB, (), 3), (WEB, (0,), 3), (WEB, (), 2), (web_of_callees(line(4)), (), 3), (web_of_callees(star(3), (1, 2), (0, 1)), (), 2),
    ((((), 1, 7),), (), 0), (web_of_callees([(), (0,), (1,), (0, 2)]), (1,), 3),
)


def is_plain_answerer(web, known, w, k, table):
    """The definition of an ANSWERER, word by word."""
    for key in table:
        if type(key) is not tuple or len(key) != 3 or type(key[0]) is not int or not 0 <= key[0] < len(web):
            return False
        if repr(key[1]) not in [repr(lot) for lot in lots(below(web, key[0]))] or type(key[2]) is not int or key[2] < 0:
            return False
        if type(table[key]) is not dict or any(type(x) is not int or type(table[key][x]) is not bool for x in table[key]):
            return False
    if (w, shadow(web, known, w), k) not in table:
        return False
    for u, lot, left in table:
        if set(web[u][0]) <= set(lot) and web[u][2] <= left:
            return False
        for x in open_below(web, lot, u):
            less = left - web[x][1]
            if less >= 0:
                told = table[(u, lot, left)].get(x)
                is_right = told is True and (u, with_known(lot, (x,)), less) in table
                is_wrong = told is False and (x, shadow(web, lot, x), less) in table
                if not is_right and not is_wrong:
                    return False
    return True


class AnswererTest(unittest.TestCase):
    def test_none_just_from_the_least_price_on(self):
        for web, known in CASES:
            for w in range(len(web)):
                if w not in known:
                    least = least_price(web, known, w)
                    for k in range(least):
                        self.assertIs(is_answerer(web, known, w, k, answerer(web, known, w, k)), True)
                    for k in (least, least + 1, least + 100):
                        self.assertIsNone(answerer(web, known, w, k))

    def test_it_is_as_the_definition_has_it(self):
        for web, known in CASES[::2]:
            w = len(web) - 1
            for k in range(least_price(web, known, w)):
                self.assertTrue(is_plain_answerer(web, known, w, k, answerer(web, known, w, k)))

    def test_keys_are_ascending(self):
        for web, known in CASES:
            w = len(web) - 1
            k = least_price(web, known, w) - 1
            if k >= 0:
                table = answerer(web, known, w, k)
                self.assertEqual(list(table), sorted(table))
                for answers in table.values():
                    self.assertEqual(list(answers), sorted(answers))
                self.assertEqual(len({id(answers) for answers in table.values()}), len(table))

    def test_the_examples(self):
        self.assertEqual(answerer((((), 1, 7),), (), 0, 6), {(0, (), 6): {}})
        self.assertIsNone(answerer((((), 1, 7),), (), 0, 7))
        self.assertIsNone(answerer(WEB, (), 3, 4))
        self.assertIs(is_answerer(WEB, (), 3, 3, answerer(WEB, (), 3, 3)), True)

    def test_k_of_0(self):
        for web, known in CASES:
            w = len(web) - 1
            table = answerer(web, known, w, 0)
            if least_price(web, known, w) == 0:
                self.assertIsNone(table)
            else:
                self.assertEqual(table, {(w, shadow(web, known, w), 0): {}})
                self.assertEqual(asked_of(web, known, w, 0, table, ()), ())
        self.assertIsNone(answerer((((), 1, 0),), (), 0, 0))

    def test_answers_are_told_just_for_what_is_not_too_dear(self):
        web = web_of_callees(star(4), (2, 3, 4))
        self.assertEqual(list(answerer(web, (), 3, 3)[(3, (), 3)]), [0, 1])
        self.assertEqual(list(answerer(web, (), 3, 4)[(3, (), 4)]), [0, 1, 2])
        self.assertEqual(list(answerer(web, (), 3, 1)[(3, (), 1)]), [])

    def test_too_many(self):
        for k in (0, 3, 1000):
            check_too_many(self, (lambda web, known, w: answerer(web, known, w, k),))


class IsAnswererTest(unittest.TestCase):
    def test_for_another_k_and_other_states(self):
        for web, known, w in SMALL:
            for k in range(least_price(web, known, w)):
                table = answerer(web, known, w, k)
                for other in range(k + 3):
                    self.assertIs(is_answerer(web, known, w, other, table), is_plain_answerer(web, known, w, other, table))
                for lot in lots(range(len(web))):
                    for v in range(len(web)):
                        if v not in lot:
                            wanted = (v, shadow(web, lot, v), k) in table
                            self.assertIs(is_answerer(web, lot, v, k, table), wanted)
        web = web_of_callees(line(4))
        self.assertIs(is_answerer(web, (), 3, 0, answerer(web, (), 3, 1)), False)
        self.assertIs(is_answerer(web, (), 3, 2, answerer(web, (), 3, 1)), False)

    def test_answerers_with_one_part_otherwise(self):
        for web, known, w in SMALL:
            for k in range(least_price(web, known, w)):
                table = answerer(web, known, w, k)
                for thing in spoiled_dicts(table):
                    self.assertIs(is_answerer(web, known, w, k, thing), is_plain_answerer(web, known, w, k, thing), (web, known, thing))

    def test_one_truth_otherwise(self):
        for web, known, w in SMALL:
            for k in range(least_price(web, known, w)):
                table = answerer(web, known, w, k)
                for key in table:
                    for x in table[key]:
                        u, lot, left = key
                        less = left - web[x][1]
                        right, wrong = (u, with_known(lot, (x,)), less), (x, shadow(web, lot, x), less)
                        self.assertIn(right if table[key][x] else wrong, table)
                        thing = {**table, key: {**table[key], x: not table[key][x]}}
                        wanted = (wrong if table[key][x] else right) in table
                        self.assertIs(is_answerer(web, known, w, k, thing), wanted)

    def test_an_entry_out(self):
        for web, known, w in SMALL:
            for k in range(least_price(web, known, w)):
                table = answerer(web, known, w, k)
                for key in table:
                    rest = {other: table[other] for other in table if other != key}
                    self.assertIs(is_answerer(web, known, w, k, rest), False)
                    for x in table[key]:
                        answers = {y: table[key][y] for y in table[key] if y != x}
                        self.assertIs(is_answerer(web, known, w, k, {**table, key: answers}), False)

    def test_entries_more(self):
        web = web_of_callees(line(4))
        table = answerer(web, (), 3, 1)
        # Keys that keep to the rules, and such as do not.
        for key, answers, wanted in (
            ((3, (), 0), {}, True), ((2, (), 0), {}, True), ((0, (), 0), {}, False), ((3, (2,), 0), {}, False),
            ((3, (0, 1, 2), 5), {}, False), ((2, (), 1), {}, False), ((2, (0,), 1), {1: True}, False), ((2, (0,), 1), {1: False}, False),
            ((3, (0,), 0), {}, True), ((3, (), -1), {}, False), ((4, (), 0), {}, False), ((-1, (), 0), {}, False), ((1, (1,), 0), {}, False),
            ((1, (2,), 0), {}, False), ((3, (1, 0), 0), {}, False), ((3, (True,), 0), {}, False), ((3, (), False), {}, False),
            ((True, (), 0), {}, False), ((3, ()), {}, False), ((3, (), 0, 0), {}, False), (None, {}, False), ("3", {}, False),
            ((3, (), None), {}, False), ((3, None, 0), {}, False), ((3, (), 0), None, False), ((3, (), 0), [], False), ((3, (), 0), (), False),
        ):
            rest = {other: table[other] for other in table if other != key}
            self.assertIs(is_answerer(web, (), 3, 1, {**rest, key: answers}), wanted, (key, answers))

    def test_a_key_for_more_with_all_that_it_leads_to(self):
        web = web_of_callees(line(4), (1,), (1,))
        table, more = answerer(web, (), 3, 1), answerer(web, (), 3, 2)
        self.assertIs(is_answerer(web, (), 3, 1, {**table, **more}), True)
        self.assertIs(is_answerer(web, (), 3, 2, {**table, **more}), True)
        key = (3, (), 2)
        self.assertIs(is_answerer(web, (), 3, 1, {**table, key: more[key]}), set(more) <= set(table) | {key})

    def test_answers_to_other_integers(self):
        web = web_of_callees(line(4))
        table = answerer(web, (), 3, 1)
        for key in table:
            for x in (3, 4, -1, 10 ** 49):
                for truth in (True, False):
                    self.assertIs(is_answerer(web, (), 3, 1, {**table, key: {**table[key], x: truth}}), True)
                for other in (None, 0, 1, "", (), [True], (True,)):
                    self.assertIs(is_answerer(web, (), 3, 1, {**table, key: {**table[key], x: other}}), False)
            for x in (None, "0", (), (0,), "x"):
                self.assertIs(is_answerer(web, (), 3, 1, {**table, key: {**table[key], x: True}}), False)
            for x in table[key]:
                for other in (None, 0, 1, "True"):
                    self.assertIs(is_answerer(web, (), 3, 1, {**table, key: {**table[key], x: other}}), False)
                if x in (0, 1):
                    answers = {(bool(y) if y == x else y): table[key][y] for y in table[key]}
                    self.assertIs(is_answerer(web, (), 3, 1, {**table, key: answers}), False)

    def test_keys_in_any_order(self):
        for web, known, w in SMALL:
            for k in range(least_price(web, known, w)):
                table = answerer(web, known, w, k)
                turned = {key: dict(list(table[key].items())[::-1]) for key in list(table)[::-1]}
                self.assertIs(is_answerer(web, known, w, k, turned), True)

    def test_any_value(self):
        table = answerer(WEB, (), 3, 3)
        for thing in ANY:
            self.assertIs(is_answerer(WEB, (), 3, 3, thing), False)
            self.assertIs(is_answerer(WEB, (), 3, 3, {**table, (3, (), 3): thing}), False)
            self.assertIs(is_answerer(WEB, (), 3, 0, {(3, (), 0): thing}), thing == {})
        self.assertIs(is_answerer(WEB, (), 3, 3, tuple(table.items())), False)

    def test_more_than_ten_open_nodes(self):
        web = web_of_callees(star(60), (5,))
        self.assertIs(is_answerer(web, (), 59, 4, {(59, (), 4): {}}), True)
        self.assertIs(is_answerer(web, (), 59, 5, {(59, (), 5): {}}), False)
        table = {(59, (), 5): {x: True for x in range(59)}, **{(59, (x,), 0): {} for x in range(59)}}
        self.assertIs(is_answerer(web, (), 59, 5, table), True)


class AskedOfTest(unittest.TestCase):
    def walk(self, web, table, key, asked, told):
        """Go through all rows of questions, and check what is told answer by answer."""
        u, lot, left = key
        self.assertFalse(set(web[u][0]) <= set(lot) and web[u][2] <= left)
        self.rows.append((asked, told))
        for x in open_below(web, lot, u):
            if web[x][1] <= left:
                is_right = table[key][x]
                state = (u, with_known(lot, (x,))) if is_right else (x, shadow(web, lot, x))
                self.walk(web, table, state + (left - web[x][1],), asked + (x,), told + (is_right,))

    def test_answer_by_answer(self):
        for web, known in CASES[::3]:
            w = len(web) - 1
            for k in range(min(least_price(web, known, w), 6)):
                table = answerer(web, known, w, k)
                turned = {key: table[key] for key in list(table)[::-1]}
                self.rows = []
                self.walk(web, table, (w, shadow(web, known, w), k), (), ())
                for asked, told in self.rows[:200]:
                    self.assertEqual(repr(asked_of(web, known, w, k, table, asked)), repr(told))
                    self.assertEqual(asked_of(web, known, w, k, turned, asked), told)

    def test_a_table_of_ones_own(self):
        web = web_of_callees(star(3), (1,), (1,))
        table = {
            (2, (), 2): {0: True, 1: True}, (2, (0,), 1): {1: True}, (2, (1,), 1): {0: False}, (2, (0, 1), 0): {}, (0, (), 0): {},
        }
        self.assertIs(is_answerer(web, (), 2, 2, table), True)
        for asked, told in (((), ()), ((0,), (True,)), ((0, 1), (True, True)), ((1,), (True,)), ((1, 0), (True, False))):
            self.assertEqual(repr(asked_of(web, (), 2, 2, table, asked)), repr(told))

    def test_known_ones(self):
        web = web_of_callees(line(5), (1,), (1,))
        table = answerer(web, (1,), 4, 1)
        self.assertEqual(sorted(key[:2] for key in table)[-1][0], 4)
        for asked in ((), (2,), (3,)):
            self.assertEqual(len(asked_of(web, (1,), 4, 1, table, asked)), len(asked))

    def test_nothing_is_changed(self):
        table = answerer(WEB, (), 3, 3)
        before = repr(table)
        asked_of(WEB, (), 3, 3, table, (1, 0) if table[(3, (), 3)][1] is False else (1,))
        is_answerer(WEB, (), 3, 3, table)
        self.assertEqual(repr(table), before)
        answerer(WEB, (), 3, 3)[(3, (), 3)].clear()
        self.assertEqual(repr(answerer(WEB, (), 3, 3)), before)
