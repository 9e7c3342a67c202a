"""[24], with the definitions in [2] (STATE, PLAN, PRICE) and [23]."""

import unittest

from askorhold.plans import followed, is_plan, plain_plan, price_of, pruned
from askorhold.webs import is_web, open_below
from drawn import Numbers, is_plain_plan, plain_price, plans
from shapes import WEBS, chance_webs, line, lots, star, web_of_callees
from things import ANY, spoiled

# 3 calls 1 and 2, both of which call 0.
WEB = (((), 1, 0), ((0,), 1, 0), ((0,), 2, 1), ((1, 2), 1, 0))
PLAIN = ("ask", 0, ("blame", 0), ("ask", 1, ("blame", 1), ("ask", 2, ("blame", 2), ("blame", 3))))
OTHER = ("ask", 2, ("ask", 0, ("blame", 0), ("blame", 2)), ("ask", 1, ("ask", 0, ("blame", 0), ("blame", 1)), ("blame", 3)))


class IsPlanTest(unittest.TestCase):
    def test_the_examples(self):
        for plan in (PLAIN, OTHER):
            self.assertIs(is_plan(WEB, (), 3, plan), True)

    def test_any_plans(self):
        for seed, web in enumerate(WEBS):
            chance = Numbers(seed)
            for known in list(lots(range(len(web) - 1)))[::5]:
                plan = plans(web, known, len(web) - 1, chance)
                self.assertIs(is_plain_plan(web, known, len(web) - 1, plan), True)
                self.assertIs(is_plan(web, known, len(web) - 1, plan), True)
                self.assertEqual(price_of(web, plan), plain_price(web, plan))

    def test_plans_for_other_states(self):
        right = 0
        for plan in (PLAIN, OTHER, PLAIN[3], OTHER[2], OTHER[3], ("blame", 0), ("blame", 3)):
            for known in lots(range(4)):
                for w in range(4):
                    if w not in known:
                        wanted = is_plain_plan(WEB, known, w, plan)
                        right += wanted
                        self.assertIs(is_plan(WEB, known, w, plan), wanted)
        self.assertGreater(right, 8)

    def test_plans_with_one_part_otherwise(self):
        for plan, known in ((PLAIN, ()), (OTHER, ()), (PLAIN[3], (0,)), (("blame", 3), (1, 2))):
            self.assertIs(is_plan(WEB, known, 3, plan), True)
            for thing in spoiled(plan):
                self.assertIs(is_plan(WEB, known, 3, thing), is_plain_plan(WEB, known, 3, thing), thing)

    def test_who_is_asked(self):
        # Known, not below, itself, asked twice.
        self.assertIs(is_plan(WEB, (0,), 3, PLAIN), False)
        self.assertIs(is_plan(WEB, (), 3, ("ask", 3, ("blame", 3), ("blame", 3))), False)
        self.assertIs(is_plan(WEB, (0,), 1, ("ask", 0, ("blame", 0), ("blame", 1))), False)
        self.assertIs(is_plan(WEB, (0,), 2, ("ask", 1, ("blame", 1), ("blame", 2))), False)
        self.assertIs(is_plan(WEB, (), 2, ("ask", 1, ("ask", 0, ("blame", 0), ("blame", 1)), ("ask", 0, ("blame", 0), ("blame", 2)))), False)
        self.assertIs(is_plan(WEB, (), 1, ("ask", 0, ("blame", 0), ("ask", 0, ("blame", 0), ("blame", 1)))), False)
        self.assertIs(is_plan(WEB, (), 1, ("ask", 0, ("ask", 0, ("blame", 0), ("blame", 0)), ("blame", 1))), False)
        self.assertIs(is_plan(WEB, (), 1, ("ask", 2, ("blame", 2), ("blame", 1))), False)
        for x in (-1, 4, 10 ** 49):
            self.assertIs(is_plan(WEB, (1, 2), 3, ("ask", x, ("blame", x), ("blame", 3))), False)

    def test_who_is_below_but_not_open_may_be_asked(self):
        self.assertEqual(open_below(WEB, (1, 2), 3), ())
        self.assertIs(is_plan(WEB, (1, 2), 3, ("ask", 0, ("blame", 0), ("blame", 3))), True)
        self.assertIs(is_plan(WEB, (0, 1, 2), 3, ("ask", 0, ("blame", 0), ("blame", 3))), False)

    def test_who_is_blamed(self):
        # Has a callee that is not known, or is not the one that is known to be wrong.
        self.assertIs(is_plan(WEB, (1,), 3, ("blame", 3)), False)
        self.assertIs(is_plan(WEB, (1, 2), 3, ("blame", 3)), True)
        self.assertIs(is_plan(WEB, (1, 2), 3, ("blame", 0)), False)
        self.assertIs(is_plan(WEB, (0, 1), 3, ("ask", 2, ("blame", 3), ("blame", 3))), False)
        self.assertIs(is_plan(WEB, (0, 1), 3, ("ask", 2, ("blame", 2), ("blame", 2))), False)
        self.assertIs(is_plan(WEB, (1,), 3, ("ask", 2, ("blame", 2), ("blame", 3))), False)
        self.assertIs(is_plan(WEB, (0, 1), 3, ("ask", 2, ("blame", 2), ("blame", 3))), True)

    def test_what_is_right_goes_on_into_both(self):
        plan = ("ask", 0, ("blame", 0), ("ask", 2, ("blame", 2), ("ask", 1, ("blame", 1), ("blame", 3))))
        self.assertIs(is_plan(WEB, (), 3, plan), True)
        plan = ("ask", 1, ("ask", 0, ("blame", 0), ("blame", 1)), ("ask", 2, ("blame", 2), ("blame", 3)))
        self.assertIs(is_plan(WEB, (), 3, plan), False)
        self.assertIs(is_plan(WEB, (0,), 3, plan), False)

    def test_lists_and_truths(self):
        web = (((), 1, 0), ((), 1, 0), ((0, 1), 1, 0))
        plan = ("ask", 0, ("blame", 0), ("ask", 1, ("blame", 1), ("blame", 2)))
        self.assertIs(is_plan(web, (), 2, plan), True)
        for thing in (
            ["ask", 0, ("blame", 0), plan[3]], ("ask", False, ("blame", 0), plan[3]), ("ask", 0, ["blame", 0], plan[3]),
            ("ask", 0, ("blame", False), plan[3]), plan[:3] + (["ask", 1, ("blame", 1), ("blame", 2)],),
            plan[:3] + (("ask", True, ("blame", 1), ("blame", 2)),), plan[:3] + (("ask", 1, ("blame", True), ("blame", 2)),),
            plan + (None,), plan[:3], ("Ask",) + plan[1:], ("blame", 2), ("ask", 0), ("ask",), ("blame",), (),
        ):
            self.assertIs(is_plan(web, (), 2, thing), False)

    def test_any_value(self):
        for thing in ANY:
            for known in ((), (1, 2), (0, 1, 2)):
                self.assertIs(is_plan(WEB, known, 3, thing), False)
                self.assertIs(is_plan(WEB, known, 0, ("blame", thing)) if 0 not in known else False, repr(thing) == "0" and 0 not in known)
            self.assertIs(is_plan(WEB, (0,), 1, thing), False)
            self.assertIs(is_plan(WEB, (), 1, ("ask", 0, thing, ("blame", 1))), False)
            self.assertIs(is_plan(WEB, (), 1, ("ask", 0, ("blame", 0), thing)), False)
            self.assertIs(is_plan(WEB, (), 1, ("ask", thing, ("blame", 0), ("blame", 1))), repr(thing) == "0")
            self.assertIs(is_plan(WEB, (), 1, (thing, 0, ("blame", 0), ("blame", 1))), False)


class PriceTest(unittest.TestCase):
    def test_the_examples(self):
        self.assertEqual([price_of(WEB, PLAIN), price_of(WEB, OTHER), price_of(WEB, ("blame", 2)), price_of(WEB, ("blame", 3))], [5, 4, 1, 0])

    def test_the_greater_one_counts_and_the_reading_of_who_is_blamed(self):
        web = (((), 3, 10), ((), 5, 1), ((0, 1), 100, 6))
        plan = ("ask", 0, ("blame", 0), ("ask", 1, ("blame", 1), ("blame", 2)))
        self.assertEqual(price_of(web, plan), 14)
        self.assertEqual(price_of(web, plan[3]), 11)
        self.assertEqual(price_of((((), 3, 12),) + web[1:], plan), 15)
        self.assertEqual(price_of((((), 1000, 1000),), ("blame", 0)), 1000)


class FollowedTest(unittest.TestCase):
    def test_the_examples(self):
        self.assertEqual(followed(PLAIN, (2, 3)), (2, (0, 1, 2)))
        self.assertEqual(followed(PLAIN, (0, 1, 2, 3)), (0, (0,)))
        self.assertEqual(followed(PLAIN, ()), (3, (0, 1, 2)))
        self.assertEqual(followed(OTHER, (0, 2)), (0, (2, 0)))
        self.assertEqual(followed(OTHER, (2,)), (2, (2, 0)))
        self.assertEqual(followed(OTHER, (0, 1, 3)), (0, (2, 1, 0)))
        self.assertEqual(followed(("blame", 3), (0, 1)), (3, ()))

    def test_the_one_that_is_blamed_is_to_blame(self):
        for seed, web in enumerate(WEBS):
            chance = Numbers(seed)
            w = len(web) - 1
            for known in list(lots(range(w)))[::7]:
                plan = plans(web, known, w, chance)
                for wrong in list(lots([node for node in range(w) if node not in known]))[::3]:
                    blamed, asked = followed(plan, wrong + (w,))
                    self.assertIn(blamed, wrong + (w,))
                    self.assertFalse(set(web[blamed][0]) & set(wrong))
                    self.assertIsInstance(asked, tuple)
                    self.assertEqual(len(set(asked)), len(asked))


class PrunedTest(unittest.TestCase):
    def test_none_some_all(self):
        self.assertEqual(pruned(PLAIN, ()), PLAIN)
        self.assertEqual(pruned(PLAIN, (0, 2)), ("ask", 1, ("blame", 1), ("blame", 3)))
        self.assertEqual(pruned(PLAIN, (0, 1, 2)), ("blame", 3))
        self.assertEqual(pruned(PLAIN, (3,)), PLAIN)
        self.assertEqual(pruned(OTHER, (0,)), ("ask", 2, ("blame", 2), ("ask", 1, ("blame", 1), ("blame", 3))))
        self.assertEqual(pruned(OTHER, (2,)), OTHER[3])
        self.assertEqual(pruned(OTHER, (1,)), ("ask", 2, OTHER[2], ("blame", 3)))
        self.assertEqual(pruned(OTHER, (0, 1, 2)), ("blame", 3))
        self.assertEqual(pruned(("blame", 3), (0, 3)), ("blame", 3))

    def test_it_is_a_plan_that_is_no_dearer(self):
        for seed, web in enumerate(WEBS):
            chance = Numbers(seed)
            w = len(web) - 1
            for known in list(lots(range(w)))[::9]:
                plan = plans(web, known, w, chance)
                for lot in list(lots(range(w)))[::5]:
                    less = pruned(plan, lot)
                    self.assertTrue(is_plan(web, tuple(sorted(set(known + lot))), w, less))
                    self.assertLessEqual(price_of(web, less), price_of(web, plan))


class PlainPlanTest(unittest.TestCase):
    def test_the_examples(self):
        self.assertEqual(plain_plan(WEB, (), 3), PLAIN)
        self.assertEqual(plain_plan(WEB, (1,), 3), ("ask", 0, ("blame", 0), ("ask", 2, ("blame", 2), ("blame", 3))))
        self.assertEqual(plain_plan(WEB, (1, 2), 3), ("blame", 3))
        self.assertEqual(plain_plan(WEB, (0, 1, 2), 3), ("blame", 3))
        self.assertEqual(plain_plan(WEB, (), 0), ("blame", 0))
        self.assertEqual(plain_plan(WEB, (3,), 1), ("ask", 0, ("blame", 0), ("blame", 1)))

    def test_it_always_asks_the_least_open_node(self):
        for web, known in list(chance_webs(4, 100, 9)) + [(web, ()) for web in WEBS]:
            w = len(web) - 1
            plan = plain_plan(web, known, w)
            self.assertTrue(is_plan(web, known, w, plan))
            now = known
            while any(callee not in now for callee in web[w][0]):
                self.assertEqual(plan[:3], ("ask", open_below(web, now, w)[0], ("blame", plan[1])))
                now, plan = tuple(sorted(now + (plan[1],))), plan[3]
            self.assertEqual(plan, ("blame", w))

    def test_sixty_nodes(self):
        for rows in (line(60), star(7) + [(at, at + 1) for at in range(53)]):
            web = web_of_callees(rows, (1, 2), (0, 3))
            self.assertTrue(is_web(web))
            plan = plain_plan(web, (), 59)
            self.assertTrue(is_plan(web, (), 59, plan))
            self.assertEqual(price_of(web, plan), plain_price(web, plan))
            self.assertEqual(followed(plan, (59,)), (59, open_below(web, (), 59)))
            self.assertEqual(pruned(plan, tuple(range(59))), ("blame", 59))
            self.assertEqual(pruned(plan, ()), plan)
