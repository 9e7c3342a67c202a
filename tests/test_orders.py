"""[31] and [32], with the definition of an ORDER in [2], and the guarantee [8]."""

import itertools
import random
import unittest

from askorhold.deeds import behind, comes
from askorhold.least import least_plan
from askorhold.orders import is_order, led, order_behind, order_known, order_renamed, order_thrown, plan_from, plan_of_deeds
from askorhold.plans import followed, is_plan, price_of
from askorhold.rooms import least_room
from askorhold.webs import below
from drawn import Numbers, is_plain_plan, plain_price, plans
from shapes import CASES, chance_webs, full, line, lots, star, web_of_callees
from steps import rows_of
from things import ANY, spoiled

LINE = web_of_callees(line(4))
ORDER = ((1, ("ask", 0, ("blame", 0), ("blame", 1))), (2, ("blame", 2)))
# 2 calls 0 and 1, 3 calls 2, 4 calls 1, 5 calls 3 and 4.
WEB = web_of_callees([(), (), (0, 1), (2,), (1,), (3, 4)])
DEAR = web_of_callees([(), (), (0, 1), (2,), (1,), (3, 4)], (2, 1, 3), (0, 2, 1, 0))


def is_plain_order(web, known, k, held, thing):
    """The definition of an ORDER, word by word."""
    if type(thing) is not tuple or not all(type(part) is tuple and len(part) == 2 for part in thing):
        return False
    if not all(type(q) is int for q, _ in thing) or sorted(q for q, _ in thing) != sorted(held):
        return False
    for at, (q, plan) in enumerate(thing):
        ahead = [node for node, _ in thing[:at]]
        if not is_plain_plan(web, tuple(known) + tuple(ahead), q, plan):
            return False
        if plain_price(web, plan) > k - web[q][1] - sum(web[node][1] for node in ahead):
            return False
    return True


def chain(web, order, nodes, last):
    """("ask", m1, p1, ("ask", m2, p2, .. ("blame", last) ..)) with the plans of an ORDER."""
    if not nodes:
        return ("blame", last)
    return ("ask", nodes[0], dict(order)[nodes[0]], chain(web, order, nodes[1:], last))


def plain_behind(web, order, deed):
    """What [31] says of each sort of DEED, word by word."""
    word, v = deed
    row = [q for q, _ in order]
    if word == "put":
        return order + ((v, ("blame", v)),)
    made = []
    for q, plan in order:
        if word == "take" and row.index(q) > row.index(v) and v in below(web, q):
            behind_q = [m for m in row[row.index(q) + 1:] if m in below(web, v)]
            plan = ("ask", v, chain(web, order, behind_q, v), plan)
        if q != v:
            made.append((q, plan))
    return tuple(made)


def moments(web, known, k, row):
    """All tuples (DEEDS up to now, HELD, ORDER) along a row."""
    held, order = (), ()
    yield (), held, order
    for many, deed in enumerate(row):
        order = order_behind(web, known, k, order, deed)
        held = behind(held, deed)
        yield row[:many + 1], held, order


def lives(step=1, many=14):
    """Tuples (web, known, k, row) of rows that can be done, and FIT k."""
    for seed, (web, known) in enumerate(CASES[::step]):
        for k in (least_room(web, known, len(web) - 1), 5, 100):
            for words in (("put", "take", "throw"), ("put", "put", "take")):
                yield web, known, k, rows_of(seed, web, known, k, many, words)[0]


class IsOrderTest(unittest.TestCase):
    def check(self, web, known, k, held, thing):
        wanted = is_plain_order(web, known, k, held, thing)
        self.assertIs(is_order(web, known, k, held, thing), wanted, (web, known, k, held, thing))
        return wanted

    def test_the_examples(self):
        self.assertEqual([is_order(LINE, (), k, (1, 2), ORDER) for k in (2, 1)], [True, False])
        self.assertEqual([is_order(LINE, (), 2, (1, 2), ORDER[::-1]), is_order(LINE, (0,), 2, (1, 2), ORDER)], [False, False])

    def test_nothing_held(self):
        for k in (0, 5):
            self.assertIs(is_order(LINE, (0,), k, (), ()), True)
            self.assertIs(is_order(LINE, (0,), k, (1,), ()), False)
            self.assertIs(is_order(LINE, (), k, (), ((0, ("blame", 0)),)), False)

    def test_orders_that_were_led_along(self):
        many = 0
        for web, known, k, row in lives(4):
            for _, held, order in moments(web, known, k, row):
                self.assertIs(is_order(web, known, k, held, order), True, (web, known, k, row))
                many += len(order) > 1
                for other in (k - 1, k + 1, sum(web[v][1] for v in held) - 1):
                    if other >= 0:
                        self.check(web, known, other, held, order)
        self.assertGreater(many, 100)

    def test_a_tuple_out_twice_or_moved(self):
        right = 0
        for web, known, k, row in lives(12, 8):
            held, order = led(web, known, k, row)
            for at in range(len(order)):
                self.assertIs(is_order(web, known, k, held, order[:at] + order[at + 1:]), False)
                self.assertIs(is_order(web, known, k, held, order + (order[at],)), False)
                rest = order[:at] + order[at + 1:]
                for to in range(len(order)):
                    right += to != at and self.check(web, known, k, held, rest[:to] + (order[at],) + rest[to:])
        self.assertGreater(right, 5)

    def test_another_plan(self):
        right = 0
        for seed, (web, known, k, row) in enumerate(lives(9, 8)):
            held, order = led(web, known, k, row)
            chance = Numbers(seed)
            for at, (q, _) in enumerate(order):
                ahead = tuple(sorted(known + tuple(node for node, _ in order[:at])))
                for plan in (least_plan(web, ahead, q), plans(web, ahead, q, chance), least_plan(web, known, q), ("blame", q)):
                    right += self.check(web, known, k, held, order[:at] + ((q, plan),) + order[at + 1:])
        self.assertGreater(right, 50)

    def test_one_part_otherwise(self):
        for web, known, k, held, order in (
            (LINE, (), 2, (1, 2), ORDER), (DEAR, (), 9, *led(DEAR, (), 9, (("put", 0), ("put", 1), ("put", 2), ("take", 0)))),
            (WEB, (1,), 3, *led(WEB, (1,), 3, (("put", 4), ("put", 0), ("put", 2)))),
        ):
            self.assertIs(is_order(web, known, k, held, order), True)
            for thing in spoiled(order):
                self.check(web, known, k, held, thing)

    def test_another_held_and_other_known_ones(self):
        right = 0
        for web, known, k, row in lives(20, 8):
            held, order = led(web, known, k, row)
            for other in lots(range(len(web))):
                right += self.check(web, known, k, other, order)
                if not set(other) & set(held):
                    right += self.check(web, other, k, held, order)
        self.assertGreater(right, 10)

    def test_drawn_orders(self):
        right = 0
        for seed, (web, known) in enumerate(CASES[::6]):
            chance = Numbers(seed)
            free = [v for v in range(len(web)) if v not in known]
            for _ in range(12):
                row = [v for v in free if chance() % 2]
                random.Random(chance()).shuffle(row)
                order = []
                for q in row:
                    ahead = tuple(sorted(set(known) | {node for node, _ in order}))
                    order.append((q, plans(web, ahead, q, chance) if chance() % 3 else least_plan(web, ahead, q)))
                for k in (2, 4, 8, 100):
                    right += self.check(web, known, k, tuple(sorted(row)), tuple(order))
        self.assertGreater(right, 100)

    def test_the_price_and_all_ahead_count(self):
        order = ((0, ("blame", 0)), (1, ("blame", 1)), (2, ("blame", 2)))
        self.assertEqual([is_order(DEAR, (), k, (0, 1, 2), order) for k in (6, 7)], [False, True])
        self.assertEqual([is_order(DEAR, (), k, (0, 1), order[:2]) for k in (4, 5)], [False, True])
        self.assertEqual([is_order(DEAR, (), k, (0,), order[:1]) for k in (1, 2)], [False, True])

    def test_lists_and_truths(self):
        order = ((0, ("blame", 0)), (1, ("blame", 1)))
        self.assertIs(is_order(LINE, (), 9, (0, 1), order), True)
        for thing in (
            list(order), ([0, ("blame", 0)], order[1]), ((0, ["blame", 0]), order[1]), ((False, ("blame", 0)), order[1]),
            ((0, ("blame", False)), order[1]), (order[0], (True, ("blame", 1))), (order[0], (1, ("blame", True))),
            ((0, ("blame", 0), None), order[1]), ((0,), order[1]), ((-1, ("blame", 0)), order[1]), (("0", ("blame", 0)), order[1]),
            (order[0], order[0]), order + ((7, ("blame", 7)),), (order[0], (7, ("blame", 7))), (order[0], (1, None)), (order[0], None),
        ):
            self.assertIs(is_order(LINE, (), 9, (0, 1), thing), False, thing)

    def test_any_value(self):
        for thing in ANY:
            self.assertIs(is_order(LINE, (), 9, (0,), thing), False)
            self.assertIs(is_order(LINE, (), 9, (), thing), repr(thing) == "()")
            self.assertIs(is_order(LINE, (), 9, (0,), (thing,)), False)
            self.assertIs(is_order(LINE, (), 9, (0,), ((0, thing),)), False)
            self.assertIs(is_order(LINE, (), 9, (0,), ((thing, ("blame", 0)),)), repr(thing) == "0")
            self.assertIs(is_order(LINE, (), 9, (0,), ((0, ("blame", thing)),)), repr(thing) == "0")


class OrderBehindTest(unittest.TestCase):
    def test_a_put_comes_behind_all(self):
        self.assertEqual(order_behind(LINE, (), 9, (), ("put", 0)), ((0, ("blame", 0)),))
        self.assertEqual(order_behind(LINE, (), 9, ORDER, ("put", 3)), ORDER + ((3, ("blame", 3)),))
        self.assertEqual(order_behind(LINE, (), 9, ORDER, ("put", 0)), ORDER + ((0, ("blame", 0)),))

    def test_a_throw_leaves_out(self):
        order = ORDER + ((3, ("blame", 3)),)
        self.assertEqual(order_behind(LINE, (), 9, order, ("throw", 3)), ORDER)
        self.assertEqual(order_behind(LINE, (), 9, ORDER, ("throw", 2)), ORDER[:1])
        self.assertEqual(order_behind(WEB, (0, 1), 9, ((2, ("blame", 2)), (4, ("blame", 4))), ("throw", 2)), ((4, ("blame", 4)),))

    def test_a_take_is_asked_by_those_behind_that_it_is_below(self):
        # 1 is BELOW 2 and 4, but not BELOW 0, and not behind itself.
        order = tuple((q, ("blame", q)) for q in (0, 1, 2, 4))
        wanted = ((0, ("blame", 0)), (2, ("ask", 1, ("blame", 1), ("blame", 2))), (4, ("ask", 1, ("blame", 1), ("blame", 4))))
        self.assertEqual(order_behind(WEB, (), 9, order, ("take", 1)), wanted)
        self.assertEqual(order_behind(WEB, (), 9, order, ("take", 4)), order[:3])

    def test_nothing_is_asked_by_those_ahead(self):
        # 2 stands ahead of 1, as 1 was made anew for 4.
        row = tuple(("put", v) for v in (0, 1, 2)) + (("take", 1), ("put", 1), ("put", 4))
        held, order = led(WEB, (), 9, row)
        ahead = ((0, ("blame", 0)), (2, ("ask", 1, ("blame", 1), ("blame", 2))))
        self.assertEqual(order, ahead + ((1, ("blame", 1)), (4, ("blame", 4))))
        self.assertEqual(order_behind(WEB, (), 9, order, ("take", 1)), ahead + ((4, ("ask", 1, ("blame", 1), ("blame", 4))),))

    def test_if_it_is_wrong_those_between_and_behind_are_asked(self):
        # 2 is taken while 3 stands behind it; of those BELOW 2, 1 is ahead of 3, and 0 behind it.
        row = [("put", v) for v in (0, 1, 2)] + [("take", 0), ("put", 3), ("put", 0)]
        held, order = led(WEB, (), 9, tuple(row))
        self.assertEqual([q for q, _ in order], [1, 2, 3, 0])
        taken = order_behind(WEB, (), 9, order, ("take", 2))
        self.assertEqual(taken, ((1, ("blame", 1)), (3, ("ask", 2, ("ask", 0, ("blame", 0), ("blame", 2)), ("blame", 3))), (0, ("blame", 0))))
        # With 1 behind it, too, both are asked in the row in which they stand.
        row = [("put", v) for v in (0, 1, 2)] + [("take", 0), ("take", 1), ("put", 3), ("put", 1), ("put", 0)]
        held, order = led(WEB, (), 9, tuple(row))
        self.assertEqual([q for q, _ in order], [2, 3, 1, 0])
        wrong = ("ask", 1, ("blame", 1), ("ask", 0, ("blame", 0), ("blame", 2)))
        self.assertEqual(order_behind(WEB, (), 9, order, ("take", 2))[0], (3, ("ask", 2, wrong, ("blame", 3))))

    def test_the_plans_of_those_between_come_along(self):
        web = web_of_callees([(), (0,), (1,), (2,)])
        row = (("put", 0), ("put", 1), ("put", 2), ("take", 1), ("put", 3), ("put", 1), ("take", 0))
        held, order = led(web, (), 9, row)
        self.assertEqual([q for q, _ in order], [2, 3, 1])
        one = ("ask", 0, ("blame", 0), ("blame", 1))
        self.assertEqual(order[2], (1, one))
        right = ("ask", 0, ("blame", 0), ("blame", 3))
        self.assertEqual(order_behind(web, (), 9, order, ("take", 2))[0], (3, ("ask", 2, ("ask", 1, one, ("blame", 2)), right)))

    def test_word_by_word_along_rows(self):
        takes = 0
        for web, known, k, row in lives():
            held, order = (), ()
            for deed in row:
                wanted = plain_behind(web, order, deed)
                takes += deed[0] == "take" and repr(wanted) != repr(order_thrown(order, (deed[1],)))
                order = order_behind(web, known, k, order, deed)
                self.assertEqual(order, wanted)
                held = behind(held, deed)
                self.assertTrue(is_plain_order(web, known, k, held, order), (web, known, k, row))
            self.assertEqual(led(web, known, k, row), (held, order))
            self.assertEqual(led(web, known, k, list(row)), (held, order))
        self.assertGreater(takes, 300)


class OtherOrdersTest(unittest.TestCase):
    def test_the_examples(self):
        self.assertEqual(order_known(ORDER, (0,)), ((1, ("blame", 1)), (2, ("blame", 2))))
        self.assertEqual([order_known(ORDER, (1,)), order_thrown(ORDER, (2,))], [((2, ("blame", 2)),), ORDER[:1]])
        self.assertEqual(order_renamed(ORDER[1:], {2: 7}), ((7, ("blame", 7)),))

    def test_known_ones_that_are_held_asked_or_neither(self):
        order = ((1, ("ask", 0, ("blame", 0), ("blame", 1))), (3, ("ask", 2, ("ask", 0, ("blame", 0), ("blame", 2)), ("blame", 3))))
        self.assertEqual(order_known(order, ()), order)
        self.assertEqual(order_known(order, (0,)), ((1, ("blame", 1)), (3, ("ask", 2, ("blame", 2), ("blame", 3)))))
        self.assertEqual(order_known(order, (2,)), (order[0], (3, ("blame", 3))))
        self.assertEqual(order_known(order, (1,)), (order[1],))
        self.assertEqual(order_known(order, (3,)), (order[0],))
        self.assertEqual(order_known(order, (4, 5)), order)
        self.assertEqual(order_known(order, (0, 1, 2)), ((3, ("blame", 3)),))
        self.assertEqual(order_known(order, (0, 1, 2, 3)), ())

    def test_known_ones_make_an_order(self):
        for web, known, k, row in lives(9, 10):
            held, order = led(web, known, k, row)
            for lot in list(lots([v for v in range(len(web)) if v not in known]))[::3]:
                rest = tuple(v for v in held if v not in lot)
                told = order_known(order, lot)
                self.assertEqual([q for q, _ in told], [q for q, _ in order if q not in lot])
                self.assertTrue(is_plain_order(web, tuple(sorted(known + lot)), k, rest, told))

    def test_thrown_ones(self):
        self.assertEqual([order_thrown(ORDER, lot) for lot in ((), (1,), (0, 3), (1, 2))], [ORDER, ORDER[1:], ORDER, ()])
        for web, known, k, row in lives(9, 10):
            held, order = led(web, known, k, row)
            for lot in lots(held):
                told = order_thrown(order, lot)
                self.assertEqual(told, tuple(part for part in order if part[0] not in lot))
                rest = tuple(v for v in held if v not in lot)
                if not any(set(below(web, v)) & set(lot) for v in rest):
                    self.assertTrue(is_plain_order(web, known, k, rest, told))

    def test_renamed_in_plans_too(self):
        order = ORDER + ((3, ("ask", 0, ("blame", 0), ("ask", 1, ("blame", 1), ("blame", 3)))),)
        names = {0: 5, 1: 0, 2: 1, 3: 2}
        wanted = (
            (0, ("ask", 5, ("blame", 5), ("blame", 0))), (1, ("blame", 1)),
            (2, ("ask", 5, ("blame", 5), ("ask", 0, ("blame", 0), ("blame", 2)))),
        )
        self.assertEqual(order_renamed(order, names), wanted)
        self.assertEqual(order_renamed(wanted, {new: old for old, new in names.items()}), order)
        self.assertEqual(names, {0: 5, 1: 0, 2: 1, 3: 2})
        self.assertEqual(order_renamed((), {}), ())

    def test_renamed_orders_are_orders(self):
        for web, known, k, row in lives(11, 10):
            held, order = led(web, known, k, row)
            # A NODE more, which nobody calls, at the begin.
            other = (((), 1, 0),) + tuple((tuple(callee + 1 for callee in node[0]),) + node[1:] for node in web)
            later = tuple(v + 1 for v in known)
            told = order_renamed(order, {v: v + 1 for v in range(len(web))})
            self.assertTrue(is_plain_order(other, later, k, tuple(v + 1 for v in held), told))


class PlanFromTest(unittest.TestCase):
    def test_the_examples(self):
        plan = ("ask", 1, ("ask", 0, ("blame", 0), ("blame", 1)), ("ask", 2, ("blame", 2), ("blame", 3)))
        row = (("put", 0), ("put", 1), ("take", 0), ("put", 2))
        self.assertEqual([plan_from(LINE, ORDER, 3), plan_of_deeds(LINE, (), 2, row, 3)], [plan, plan])
        self.assertEqual(led(LINE, (), 2, row), ((1, 2), ORDER))

    def test_only_those_below_are_asked(self):
        order = tuple((q, ("blame", q)) for q in (1, 4, 0, 2))
        self.assertEqual(plan_from(WEB, order, 3), ("ask", 1, ("blame", 1), ("ask", 0, ("blame", 0), ("ask", 2, ("blame", 2), ("blame", 3)))))
        self.assertEqual(plan_from(WEB, order[:1], 4), ("ask", 1, ("blame", 1), ("blame", 4)))
        self.assertEqual(plan_from(WEB, order[:2], 0), ("blame", 0))
        self.assertEqual(plan_from(WEB, (), 0), ("blame", 0))

    def test_from_nothing(self):
        self.assertEqual(led(LINE, (), 0, ()), ((), ()))
        self.assertEqual(plan_of_deeds(LINE, (), 0, (), 0), ("blame", 0))
        self.assertEqual(plan_of_deeds(LINE, (1,), 0, [], 2), ("blame", 2))

    def test_at_every_moment_of_rows(self):
        found = 0
        for web, known, k, row in lives(2):
            chance = Numbers(len(row))
            for deeds, held, order in moments(web, known, k, row):
                for w in range(len(web)):
                    if not comes(web, known, k, held, w):
                        continue
                    plan = plan_of_deeds(web, known, k, deeds, w)
                    self.assertEqual(plan, plan_from(web, order, w))
                    self.assertEqual(plan, chain(web, order, [q for q, _ in order if q in below(web, w)], w))
                    self.assertTrue(is_plan(web, known, w, plan))
                    self.assertLessEqual(price_of(web, plan), k)
                    wrong = tuple(v for v in range(len(web)) if v == w or v not in known and chance() % 2)
                    blamed, _ = followed(plan, wrong)
                    self.assertIn(blamed, wrong)
                    self.assertFalse(set(web[blamed][0]) & set(wrong))
                    found += 1
        self.assertGreater(found, 1000)

    def test_in_the_least_room_the_price_is_the_least(self):
        for web, known in list(chance_webs(61, 60, 7)):
            w = len(web) - 1
            k = least_room(web, known, w)
            for seed in range(6):
                row, _ = rows_of(seed, web, known, k, 25)
                for deeds, held, order in moments(web, known, k, row):
                    if comes(web, known, k, held, w):
                        self.assertEqual(price_of(web, plan_from(web, order, w)), k)

    def test_each_row_of_three_deeds(self):
        web = web_of_callees(full(3), (1, 2), (0, 1))
        for row in itertools.product([(word, v) for word in ("put", "take", "throw") for v in range(3)], repeat=3):
            held = ()
            for deed in row:
                held = behind(held, deed) if held is not None and self.may(web, held, deed) else None
            if held is not None:
                self.assertIs(is_order(web, (), 9, *led(web, (), 9, row)), True)

    def may(self, web, held, deed):
        ready = set(web[deed[1]][0]) <= set(held)
        if deed[0] == "put":
            return ready and deed[1] not in held
        return deed[1] in held and (ready if deed[0] == "take" else not any(deed[1] in below(web, v) for v in held))

    def test_sixty_nodes(self):
        web = web_of_callees(line(60))
        row = [("put", 0)]
        for v in range(1, 59):
            row += [("put", v), ("take", v - 1)] if v == 1 else [("put", v)]
        held, order = led(web, (), 100, row)
        self.assertEqual(held, tuple(range(1, 59)))
        self.assertIs(is_order(web, (), 60, held, order), True)
        plan = plan_from(web, order, 59)
        self.assertTrue(is_plan(web, (), 59, plan))
        self.assertEqual(price_of(web, plan), 58)
        web = web_of_callees(star(60))
        held, order = led(web, (), 100, [("put", v) for v in range(59)] + [("throw", v) for v in range(10)])
        self.assertEqual(order, tuple((v, ("blame", v)) for v in range(10, 59)))
