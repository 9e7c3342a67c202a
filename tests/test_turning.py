"""[30], with the definitions in [2] (PLAN, PRICE, DEEDS, FITS, COMES), [24] and [27], and the guarantee [7]."""

import unittest

from askorhold.deeds import backward, comes, done, room_needed
from askorhold.least import least_plan, least_price
from askorhold.plans import is_plan, plain_plan, price_of
from askorhold.rooms import least_room
from askorhold.turning import deeds_of, put_deeds
from drawn import Numbers, plans
from shapes import CASES, chance_webs, full, line, star, web_of_callees

LINE = web_of_callees(line(4))
# 4 calls 2 and 3, 2 calls 0 and 1, 3 calls 1; readings make rooms that are needed for moments only.
DEAR = (((), 2, 1), ((), 1, 3), ((0, 1), 4, 0), ((1,), 1, 2), ((2, 3), 5, 4))


def right_nested(many):
    """A PLAN of a line that asks many, one behind the other, each if the one above it is wrong."""
    plan = ("blame", 0)
    for x in range(many):
        plan = ("ask", x, plan, ("blame", x + 1))
    return plan


class DeedsOfTest(unittest.TestCase):
    def check(self, web, known, w, plan):
        price = price_of(web, plan)
        row = deeds_of(web, known, w, plan)
        self.assertIsInstance(row, tuple)
        self.assertTrue(all(word in ("put", "take") for word, _ in row))
        held = done(web, known, price, row)
        self.assertIsNotNone(held, (web, known, w, plan))
        self.assertTrue(comes(web, known, price, held, w))
        self.assertLessEqual(room_needed(web, known, row, w), price)
        both = put_deeds(web, known, w, plan)
        self.assertEqual(both, row + (("put", w),) + backward(row))
        self.assertEqual(done(web, known, price + web[w][1], both), (w,))

    def test_the_examples(self):
        plan = ("ask", 1, ("ask", 0, ("blame", 0), ("blame", 1)), ("ask", 2, ("blame", 2), ("blame", 3)))
        self.assertEqual(deeds_of(LINE, (), 3, plan), (("put", 0), ("put", 1), ("take", 0), ("put", 2)))
        self.assertEqual(put_deeds(LINE, (), 1, plan[2]), (("put", 0), ("put", 1), ("take", 0)))

    def test_nothing_to_ask(self):
        self.assertEqual(deeds_of(LINE, (), 0, ("blame", 0)), ())
        self.assertEqual(put_deeds(LINE, (), 0, ("blame", 0)), (("put", 0),))
        self.assertEqual(put_deeds(LINE, (1,), 2, ("blame", 2)), (("put", 2),))

    def test_the_rows_of_both_parts(self):
        wrong = ("ask", 0, ("blame", 0), ("ask", 1, ("blame", 1), ("blame", 2)))
        plan = ("ask", 2, wrong, ("ask", 3, ("ask", 1, ("blame", 1), ("blame", 3)), ("blame", 4)))
        self.assertTrue(is_plan(DEAR, (), 4, plan))
        first, second = (("put", 0), ("put", 1)), (("put", 1),)
        self.assertEqual(deeds_of(DEAR, (), 2, wrong), first)
        taken = (("take", 1), ("take", 0))
        row = first + (("put", 2),) + taken + second + (("put", 3), ("take", 1))
        self.assertEqual(deeds_of(DEAR, (), 4, plan), row)
        back = (("put", 1), ("take", 3), ("take", 1), ("put", 0), ("put", 1), ("take", 2), ("take", 1), ("take", 0))
        self.assertEqual(put_deeds(DEAR, (), 4, plan), row + (("put", 4),) + back)
        self.check(DEAR, (), 4, plan)

    def test_plain_plans(self):
        for web, known in CASES + list(chance_webs(3, 50, 9)):
            for w in range(len(web)):
                if w not in known:
                    self.check(web, known, w, plain_plan(web, known, w))

    def test_least_plans(self):
        for web, known in CASES + list(chance_webs(4, 30, 10)):
            for w in range(len(web)):
                if w not in known:
                    self.check(web, known, w, least_plan(web, known, w))

    def test_they_need_the_least_room(self):
        for web, known in CASES:
            w = len(web) - 1
            row = deeds_of(web, known, w, least_plan(web, known, w))
            self.assertEqual(room_needed(web, known, row, w), least_room(web, known, w))
            self.assertEqual(room_needed(web, known, row, w), least_price(web, known, w))

    def test_drawn_plans(self):
        # They ask NODES that are not OPEN, too.
        for seed, (web, known) in enumerate(CASES):
            chance = Numbers(seed)
            for _ in range(3):
                w = len(web) - 1
                self.check(web, known, w, plans(web, known, w, chance))

    def test_twelve_questions_one_behind_the_other(self):
        web = web_of_callees(line(13), (1, 2), (0, 3))
        self.check(web, (), 12, right_nested(12))
        self.assertEqual(len(deeds_of(web, (), 12, right_nested(12))), 2 ** 12 - 1)
        for rows in (line(13), star(13), full(13)):
            web = web_of_callees(rows, (2, 1, 3), (0, 1))
            self.check(web, (), 12, plain_plan(web, (), 12))
            self.assertEqual(len(deeds_of(web, (), 12, plain_plan(web, (), 12))), 12)

    def test_many_deeds(self):
        web, chance = web_of_callees(full(8)), (lambda: -1)
        plan = plans(web, (), 7, chance)
        self.assertEqual(len(deeds_of(web, (), 7, plan)), (3 ** 7 - 1) // 2)
        self.check(web, (), 7, plan)
