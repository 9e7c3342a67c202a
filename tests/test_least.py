"""[25], with the definitions in [2] (STATE, PLAN, PRICE), [23] and [24]."""

import unittest

from askorhold.least import is_table, least_plan, least_price, price_table
from askorhold.plans import is_plan, plain_plan, price_of
from askorhold.webs import below, open_below, shadow, with_known
from shapes import CASES, WEBS, check_too_many, line, lots, star, web_of_callees
from things import ANY, spoiled_dicts

WEB = (((), 1, 0), ((0,), 1, 0), ((0,), 2, 1), ((1, 2), 1, 0))


def plain_least(web, known, w):
    """The least PRICE, all first questions and both answers being gone through, also those of NODES that are not OPEN."""
    found = {}

    def least(u, right):
        right = right & set(below(web, u))
        key = (u, tuple(sorted(right)))
        if key not in found:
            prices = [web[u][2]] if set(web[u][0]) <= right else []
            for x in below(web, u):
                if x not in right:
                    prices.append(web[x][1] + max(least(x, right), least(u, right | {x})))
            found[key] = min(prices)
        return found[key]

    return least(w, set(known))


def is_plain_table(web, known, w, table):
    """The definition of a TABLE, word by word."""
    for key in table:
        if type(key) is not tuple or len(key) != 2 or type(key[0]) is not int or not 0 <= key[0] < len(web):
            return False
        u, lot = key
        if repr(lot) not in [repr(other) for other in lots(below(web, u))] or type(table[key]) is not int:
            return False
    if (w, shadow(web, known, w)) not in table:
        return False
    for (u, lot), price in table.items():
        prices = []
        for x in open_below(web, lot, u):
            wrong, right = (x, shadow(web, lot, x)), (u, with_known(lot, (x,)))
            if wrong not in table or right not in table:
                return False
            prices.append(web[x][1] + max(table[wrong], table[right]))
        if price != (min(prices) if prices else web[u][2]):
            return False
    return True


class LeastPriceTest(unittest.TestCase):
    def test_the_examples(self):
        self.assertEqual([least_price(WEB, (), 3), least_price(WEB, (0,), 3), least_price(WEB, (), 2)], [4, 3, 2])
        self.assertEqual([least_price(WEB, (1, 2), 3), least_price((((), 1, 7),), (), 0)], [0, 7])
        plan = least_plan(WEB, (), 3)
        self.assertEqual([is_plan(WEB, (), 3, plan), price_of(WEB, plan)], [True, 4])

    def test_against_a_going_through_all(self):
        for web, known in CASES:
            for w in range(len(web)):
                if w not in known:
                    self.assertEqual(least_price(web, known, w), plain_least(web, known, w), (web, known, w))

    def test_all_known_ones(self):
        for web in WEBS[::4]:
            for known in lots(range(len(web) - 1)):
                w = len(web) - 1
                self.assertEqual(least_price(web, known, w), plain_least(web, known, w), (web, known))

    def test_the_plan_is_one_of_this_price(self):
        for web, known in CASES:
            for w in range(len(web)):
                if w not in known:
                    plan = least_plan(web, known, w)
                    self.assertTrue(is_plan(web, known, w, plan))
                    self.assertEqual(price_of(web, plan), least_price(web, known, w))
                    self.assertLessEqual(price_of(web, plan), price_of(web, plain_plan(web, known, w)))
                    self.assertEqual(repr(plan), repr(least_plan(web, known, w)))

    def test_lines_and_stars(self):
        for many in range(1, 12):
            web = web_of_callees(line(many))
            self.assertEqual(least_price(web, (), many - 1), (many - 1).bit_length())
            web = web_of_callees(star(many))
            self.assertEqual(least_price(web, (), many - 1), many - 1)
            web = web_of_callees(star(many), (1,), (3,))
            self.assertEqual(least_price(web, (), many - 1), many + 2)

    def test_a_reading_counts_where_it_is_blamed(self):
        web = (((), 1, 9), ((0,), 1, 2))
        self.assertEqual([least_price(web, (), 1), least_price(web, (0,), 1), least_price(web, (), 0)], [10, 2, 9])

    def test_too_many(self):
        check_too_many(self, (least_price, least_plan, price_table))

    def test_ten_open_nodes_of_a_wide_web(self):
        web = tuple((tuple(range(max(0, at - 6), at)), 1 + at * 7 % 11, at % 4) for at in range(60))
        known = tuple(range(49))
        plan = least_plan(web, known, 59)
        self.assertTrue(is_plan(web, known, 59, plan))
        self.assertEqual(price_of(web, plan), least_price(web, known, 59))
        self.assertTrue(is_table(web, known, 59, price_table(web, known, 59)))


class TableTest(unittest.TestCase):
    SMALL = (
        (WEB, ()), (WEB, (0,)), (WEB, (1, 2)), (web_of_callees(line(4), (2, 1)), ()), (web_of_callees(star(4), (1, 2, 3), (0, 5)), ()),
        (web_of_callees([(), (0,), (0,), (1, 2)]), (1,)), ((((), 1, 1),), ()),
        # What is open below 3 is below 2 through one that is known.
        (web_of_callees([(), (0,), (1,), (0, 2)]), (1,)),
    )

    def test_each_key_has_the_least_price_of_its_state(self):
        for web, known in CASES:
            w = len(web) - 1
            table = price_table(web, known, w)
            self.assertEqual(list(table), sorted(table))
            self.assertEqual(table[(w, shadow(web, known, w))], least_price(web, known, w))
            self.assertIs(is_table(web, known, w, table), True)
            self.assertTrue(is_plain_table(web, known, w, table))
            for (u, lot), price in table.items():
                self.assertEqual(price, plain_least(web, lot, u))

    def test_tables_for_other_states(self):
        for web, known in self.SMALL:
            for w in range(len(web)):
                if w not in known:
                    table = price_table(web, known, w)
                    for other in lots(range(len(web))):
                        for v in range(len(web)):
                            if v not in other:
                                self.assertIs(is_table(web, other, v, table), (v, shadow(web, other, v)) in table)

    def test_tables_with_one_part_otherwise(self):
        for web, known in self.SMALL:
            w = len(web) - 1
            for thing in spoiled_dicts(price_table(web, known, w)):
                self.assertIs(is_table(web, known, w, thing), is_plain_table(web, known, w, thing), (web, known, thing))

    def test_one_integer_otherwise_or_a_key_out(self):
        for web, known in self.SMALL:
            w = len(web) - 1
            table = price_table(web, known, w)
            for key in table:
                for more in (1, -1, 10 ** 9):
                    self.assertIs(is_table(web, known, w, {**table, key: table[key] + more}), False)
                self.assertIs(is_table(web, known, w, {other: table[other] for other in table if other != key}), False)

    def test_more_keys(self):
        web = web_of_callees(line(4), (2, 1))
        table = price_table(web, (0,), 3)
        whole = price_table(web, (), 3)
        self.assertNotIn((3, ()), table)
        # All that the new one asks for is there, too, or it is not.
        self.assertIs(is_table(web, (0,), 3, {**table, **whole}), True)
        self.assertIs(is_table(web, (0,), 3, {**table, (3, ()): whole[(3, ())]}), False)
        self.assertIs(is_table(web, (0,), 3, {**table, (0, ()): 0}), True)
        self.assertIs(is_table(web, (0,), 3, {**table, (0, ()): 1}), False)
        self.assertIs(is_table(web, (0,), 3, {**table, (2, (1,)): 0}), True)
        self.assertIs(is_table(web, (0,), 3, {**table, (2, (1,)): 1}), False)
        self.assertIs(is_table(web, (0,), 3, {**table, (1, ()): 2}), False)
        self.assertIs(is_table(web, (0,), 3, {**table, (1, ()): 2, (0, ()): 0}), True)

    def test_keys_that_are_no_states(self):
        table = price_table(WEB, (), 3)
        for key in (
            (4, ()), (-1, ()), (0, (0,)), (1, (1,)), (2, (1,)), (1, (2,)), (3, (3,)), (3, (1, 0)), (3, (0, 0)), (3, (-1,)), (3,), (),
            (0, (), 0), None, "3", 3, (None, ()), (3, None), (3, 0), ("3", ()), (3, "0"), (3, (True,)), (3, (False, 1)), (3, ((0,),)),
        ):
            rest = {other: table[other] for other in table if other != key}
            for price in (0, 1, 4, table.get(key, 2)):
                self.assertIs(is_table(WEB, (), 3, {**rest, key: price}), False)

    def test_truths_for_integers(self):
        web = web_of_callees(line(2))
        table = price_table(web, (), 1)
        self.assertEqual(repr(table), "{(0, ()): 0, (1, ()): 1, (1, (0,)): 0}")
        for key, truth in (((0, ()), False), ((1, ()), True), ((1, (0,)), False)):
            self.assertIs(is_table(web, (), 1, {**table, key: truth}), False)
        for key, other in (((0, ()), (False, ())), ((1, ()), (True, ())), ((1, (0,)), (1, (False,)))):
            self.assertIs(is_table(web, (), 1, {(other if old == key else old): table[old] for old in table}), False)

    def test_keys_in_any_order(self):
        for web, known in self.SMALL:
            table = price_table(web, known, len(web) - 1)
            self.assertIs(is_table(web, known, len(web) - 1, {key: table[key] for key in list(table)[::-1]}), True)

    def test_it_may_have_more_than_ten_open_nodes(self):
        web = web_of_callees(star(12))
        self.assertIs(is_table(web, (), 11, {}), False)
        self.assertIs(is_table(web, (), 11, {(11, ()): 11}), False)
        table = {(at, ()): 0 for at in range(11)}
        for lot in lots(range(11)):
            table[(11, lot)] = 11 - len(lot)
        self.assertIs(is_table(web, (), 11, table), True)
        self.assertIs(is_table(web, (), 11, {**table, (11, (3,)): 9}), False)

    def test_any_value(self):
        table = price_table(WEB, (), 3)
        for thing in ANY:
            self.assertIs(is_table(WEB, (), 3, thing), False)
            self.assertIs(is_table(WEB, (), 3, {**table, (3, ()): thing}), False)
            self.assertIs(is_table(WEB, (), 3, [table, thing]), False)
        self.assertIs(is_table(WEB, (), 3, tuple(table.items())), False)

    def test_each_is_new_and_nothing_is_changed(self):
        one = price_table(WEB, (), 3)
        wanted = dict(one)
        one.clear()
        self.assertEqual(price_table(WEB, (), 3), wanted)
        self.assertIs(is_table(WEB, (), 3, wanted), True)
        self.assertEqual(price_table(WEB, (), 3), wanted)
