"""[33], with [23] and [24], and the guarantee [7]."""

import itertools
import random
import unittest

from askorhold.least import least_plan, least_price
from askorhold.plans import is_plan, plain_plan, price_of
from askorhold.ranks import is_ranks, is_tree, least_rank, least_ranks, plan_of_ranks, ranks_of_plan
from askorhold.rooms import least_room
from askorhold.webs import below, is_web, open_below
from drawn import is_plain_plan, plain_price
from shapes import TREE, WEBS, chance_webs, line, star, web_of_callees
from things import ANY, spoiled

LINE = web_of_callees(line(4))
STAR = web_of_callees(star(4))
# The ROOT 6 calls 2 and 5, each of which calls two more.
TWO = web_of_callees(TREE)


def web_of_parents(parents):
    """The TREE in which each NODE but the last one is a callee of its parent."""
    return web_of_callees([[v for v, parent in enumerate(parents) if parent == u] for u in range(len(parents) + 1)])


def all_trees(many):
    """All TREES of many NODES."""
    for parents in itertools.product(*[range(v + 1, many) for v in range(many - 1)]):
        yield web_of_parents(parents)


def chance_trees(seed, many, least, most):
    """TREES of different shapes: near to rows, near to stars, and between."""
    chance = random.Random(seed)
    for at in range(many):
        size, bend = chance.randint(least, most), (0.3, 1, 2, 5)[at % 4]
        yield web_of_parents([min(size - 1, v + 1 + int(chance.random() ** bend * (size - 1 - v))) for v in range(size - 1)])


def halves(levels):
    """TREES that are joined by halves: each of two equal ones, the ROOT of one of which is called by that of the other."""
    rows = [()]
    for _ in range(levels):
        rows = rows + [tuple(callee + len(rows) for callee in row) for row in rows]
        rows[-1] = tuple(sorted(rows[-1] + (len(rows) // 2 - 1,)))
    return web_of_callees(rows)


def parent_of(web, v):
    return [u for u, node in enumerate(web) if v in node[0]][0]


def way(web, one, other):
    """The EDGES, each named by its lower NODE, that one goes along between two NODES, and their own."""
    lines = []
    for v in (one, other):
        up = [v]
        while up[-1] != len(web) - 1:
            up.append(parent_of(web, up[-1]))
        lines.append(up)
    return {v for v in lines[0] + lines[1] if (v in lines[0]) != (v in lines[1])} | {one, other}


def is_plain_ranks(web, thing):
    """The definition of RANKS, word by word."""
    if type(thing) is not tuple or len(thing) != len(web) - 1:
        return False
    if not all(type(rank) is int and rank >= 1 for rank in thing):
        return False
    pairs = itertools.combinations(range(len(thing)), 2)
    return all(max(thing[v] for v in way(web, *pair)) > thing[pair[0]] for pair in pairs if thing[pair[0]] == thing[pair[1]])


def plain_plan_of_ranks(web, ranks, known, u):
    """The PLAN that [33] tells, word by word."""
    nodes = open_below(web, known, u)
    if not nodes:
        return ("blame", u)
    x = [v for v in nodes if all(ranks[v] >= ranks[other] for other in nodes)][0]
    right = tuple(sorted(known + (x,)))
    return ("ask", x, plain_plan_of_ranks(web, ranks, known, x), plain_plan_of_ranks(web, ranks, right, u))


class IsTreeTest(unittest.TestCase):
    def test_the_examples(self):
        shared = (((), 1, 0), ((0,), 1, 0), ((0, 1), 1, 0))
        things = (LINE, STAR, shared, (((), 2, 0),), (((), 1, 0), ((), 1, 0)))
        self.assertEqual([is_tree(web) for web in things], [True, True, False, False, False])

    def test_one_node_alone(self):
        self.assertIs(is_tree((((), 1, 0),)), True)
        self.assertIs(is_tree((((), 1, 1),)), False)
        self.assertIs(is_tree((((), 2, 0),)), False)

    def test_another_price_or_reading(self):
        for web in (LINE, STAR, TWO):
            self.assertIs(is_tree(web), True)
            for at, (callees, _, _) in enumerate(web):
                for price, reading in ((2, 0), (1, 1), (1000, 0), (1, 1000)):
                    self.assertIs(is_tree(web[:at] + ((callees, price, reading),) + web[at + 1:]), False)

    def test_nobodys_callee_or_that_of_two(self):
        for web in (LINE, STAR, TWO):
            for u, (callees, price, reading) in enumerate(web):
                for v in range(u):
                    other = tuple(sorted(set(callees) ^ {v}))
                    thing = web[:u] + ((other, price, reading),) + web[u + 1:]
                    self.assertTrue(is_web(thing))
                    self.assertIs(is_tree(thing), False)

    def test_many_webs(self):
        right = 0
        for web in WEBS + tuple(web for web, _ in chance_webs(7, 200, 4)):
            calls = [callee for callees, _, _ in web for callee in callees]
            is_one = all(calls.count(v) == (v < len(web) - 1) for v in range(len(web)))
            wanted = is_one and all(node[1:] == (1, 0) for node in web)
            right += wanted
            self.assertIs(is_tree(web), wanted)
        self.assertGreater(right, 5)
        for many in (1, 2, 6):
            self.assertTrue(all(is_tree(web) for web in all_trees(many)))
        for many in (2, 60):
            self.assertIs(is_tree(web_of_callees(line(many))), True)
            self.assertIs(is_tree(web_of_callees(star(many))), True)


class IsRanksTest(unittest.TestCase):
    def check(self, web, thing):
        wanted = is_plain_ranks(web, thing)
        self.assertIs(is_ranks(web, thing), wanted, (web, thing))
        return wanted

    def test_the_examples(self):
        self.assertEqual([is_ranks(LINE, ranks) for ranks in ((1, 2, 1), (1, 1, 2), (0, 2, 1), [1, 2, 1])], [True, False, False, False])
        self.assertEqual([is_ranks(STAR, ranks) for ranks in ((1, 2, 3), (1, 2, 2))], [True, False])

    def test_all_ranks_of_small_trees(self):
        right = 0
        for many in range(1, 6):
            for web in all_trees(many):
                for ranks in itertools.product(range(1, 5), repeat=many - 1):
                    right += self.check(web, ranks)
        self.assertGreater(right, 1000)

    def test_drawn_ranks_of_greater_trees(self):
        chance = random.Random(2)
        right = 0
        for web in chance_trees(3, 60, 6, 12):
            least = least_ranks(web)
            for _ in range(10):
                ranks = list(least)
                for _ in range(chance.randint(0, 2)):
                    ranks[chance.randrange(len(ranks))] = chance.randint(1, max(ranks) + 1)
                right += self.check(web, tuple(ranks))
        self.assertGreater(right, 150)

    def test_one_part_otherwise(self):
        for web in (LINE, STAR, TWO, web_of_callees(line(2))):
            for ranks in (least_ranks(web), tuple(range(1, len(web)))):
                self.assertIs(is_ranks(web, ranks), True)
                for thing in spoiled(ranks):
                    self.check(web, thing)
                for at in range(len(ranks)):
                    for rank in (0, -1, True, 10 ** 49, None, "1", (1,)):
                        self.check(web, ranks[:at] + (rank,) + ranks[at + 1:])

    def test_ranks_less_and_more(self):
        self.assertIs(is_ranks(LINE, (1, 2)), False)
        self.assertIs(is_ranks(LINE, (1, 2, 1, 3)), False)
        self.assertIs(is_ranks(LINE[:1], ()), True)
        self.assertIs(is_ranks(LINE[:1], (1,)), False)
        self.assertIs(is_ranks(LINE[:2], (7,)), True)

    def test_truths(self):
        self.assertIs(is_ranks(LINE[:2], (True,)), False)
        self.assertIs(is_ranks(LINE, (True, 2, 1)), False)
        self.assertIs(is_ranks(LINE, (1, 2, True)), False)

    def test_one_below_the_other_and_beside(self):
        # The greater rank between may be that of the EDGE of the upper one, or any above both.
        self.assertIs(is_ranks(LINE, (2, 1, 2)), False)
        self.assertIs(is_ranks(LINE, (1, 3, 1)), True)
        self.assertIs(is_ranks(TWO, (1, 2, 3, 1, 2, 4)), True)
        self.assertIs(is_ranks(TWO, (1, 2, 3, 1, 2, 3)), False)
        self.assertIs(is_ranks(TWO, (3, 2, 1, 1, 2, 4)), True)
        self.assertIs(is_ranks(TWO, (3, 2, 1, 3, 2, 4)), True)
        self.assertIs(is_ranks(TWO, (3, 2, 1, 3, 1, 2)), False)

    def test_any_value(self):
        for thing in ANY:
            self.check(LINE, thing)
            self.check(LINE, (1, 2, thing))
            self.check(STAR, (thing, thing, thing))
            self.assertIs(is_ranks(LINE[:1], thing), repr(thing) == "()")


class LeastRanksTest(unittest.TestCase):
    def check(self, web):
        ranks, rank = least_ranks(web), least_rank(web)
        self.assertIsInstance(ranks, tuple)
        self.assertIs(is_ranks(web, ranks), True, web)
        self.assertEqual(max(ranks, default=0), rank)
        plan = plan_of_ranks(web, ranks)
        self.assertTrue(is_plan(web, (), len(web) - 1, plan))
        self.assertEqual(price_of(web, plan), rank)
        return rank

    def test_the_examples(self):
        self.assertEqual([least_rank(LINE), least_rank(STAR), least_rank(LINE[:1]), max(least_ranks(STAR))], [2, 3, 0, 3])
        self.assertEqual(least_ranks(LINE[:1]), ())

    def test_no_ranks_of_small_trees_are_less(self):
        for many in range(2, 6):
            for web in all_trees(many):
                rank = self.check(web)
                self.assertFalse(any(is_plain_ranks(web, ranks) for ranks in itertools.product(range(1, rank), repeat=many - 1)))

    def test_it_is_the_least_price(self):
        for many in range(1, 8):
            for web in all_trees(many):
                self.assertEqual(self.check(web), least_price(web, (), many - 1), web)

    def test_it_is_the_least_room(self):
        for many in range(1, 7):
            for web in all_trees(many):
                self.assertEqual(least_rank(web), least_room(web, (), many - 1))

    def test_greater_trees(self):
        for web in chance_trees(11, 120, 8, 11):
            rank = self.check(web)
            self.assertEqual(rank, least_price(web, (), len(web) - 1), web)
        for web in chance_trees(12, 12, 8, 10):
            self.assertEqual(least_rank(web), least_room(web, (), len(web) - 1))

    def test_rows_and_stars(self):
        for many in range(1, 61):
            self.assertEqual(self.check(web_of_callees(line(many))), (many - 1).bit_length())
            self.assertEqual(self.check(web_of_callees(star(many))), many - 1)

    def test_joined_by_halves(self):
        # Of two of 2 ** n NODES, joined by one EDGE, each has RANKS up to n, and the EDGE one more.
        for levels in range(6):
            web = halves(levels)
            self.assertIs(is_tree(web), True)
            self.assertEqual(self.check(web), levels)

    def test_sixty_nodes(self):
        for web in chance_trees(13, 40, 60, 60):
            rank = self.check(web)
            most = max(len(node[0]) + (u < 59) for u, node in enumerate(web))
            self.assertGreaterEqual(rank, max(most, 6))

    def test_no_greatest_rank_of_what_is_joined_is_less(self):
        for one, other in itertools.product(chance_trees(14, 12, 2, 20), repeat=2):
            rows = [row for row, _, _ in one] + [tuple(callee + len(one) for callee in row) for row, _, _ in other]
            rows[-1] = tuple(sorted(rows[-1] + (len(one) - 1,)))
            rank = self.check(web_of_callees(rows))
            self.assertGreaterEqual(rank, max(least_rank(one), least_rank(other)))
            self.assertLessEqual(rank, max(least_rank(one), least_rank(other)) + 1)


class PlansAndRanksTest(unittest.TestCase):
    def check(self, web, ranks):
        """Check the PLAN of RANKS, and the RANKS of this PLAN."""
        root = len(web) - 1
        plan = plan_of_ranks(web, ranks)
        self.assertEqual(plan, plain_plan_of_ranks(web, ranks, (), root))
        self.assertTrue(is_plain_plan(web, (), root, plan))
        self.assertLessEqual(plain_price(web, plan), max(ranks, default=0))
        self.check_back(web, plan)

    def check_back(self, web, plan):
        """Check the RANKS of a PLAN, and the PLAN of these RANKS."""
        ranks = ranks_of_plan(web, plan)
        self.assertIs(is_ranks(web, ranks), True)
        parts = [plan]
        for part in parts:
            if part[0] == "ask":
                self.assertEqual(ranks[part[1]], plain_price(web, part))
                parts.extend(part[2:])
        again = plan_of_ranks(web, ranks)
        self.assertTrue(is_plain_plan(web, (), len(web) - 1, again))
        self.assertLessEqual(plain_price(web, again), plain_price(web, plan))

    def test_the_examples(self):
        plan = ("ask", 1, ("ask", 0, ("blame", 0), ("blame", 1)), ("ask", 2, ("blame", 2), ("blame", 3)))
        self.assertEqual([plan_of_ranks(LINE, (1, 2, 1)), ranks_of_plan(LINE, plan)], [plan, (1, 2, 1)])
        self.assertEqual(price_of(STAR, plan_of_ranks(STAR, (5, 2, 9))), 3)

    def test_one_node(self):
        self.assertEqual([plan_of_ranks(LINE[:1], ()), ranks_of_plan(LINE[:1], ("blame", 0))], [("blame", 0), ()])

    def test_each_rank_stands_once(self):
        for many in range(2, 6):
            for web in all_trees(many):
                for ranks in itertools.permutations(range(1, many)):
                    self.check(web, ranks)
        chance = random.Random(4)
        for web in chance_trees(21, 40, 8, 60):
            ranks = list(range(3, len(web) + 2))
            chance.shuffle(ranks)
            self.check(web, tuple(ranks))

    def test_least_ones(self):
        for web in list(chance_trees(22, 40, 2, 60)) + [halves(5), web_of_callees(star(60)), web_of_callees(line(60))]:
            self.check(web, least_ranks(web))

    def test_plans_there_and_back(self):
        for web in list(chance_trees(23, 40, 2, 11)):
            self.check_back(web, least_plan(web, (), len(web) - 1))
            self.check_back(web, plain_plan(web, (), len(web) - 1))
            self.assertEqual(max(ranks_of_plan(web, least_plan(web, (), len(web) - 1))), least_rank(web))

    def test_who_can_still_be_to_blame(self):
        # 5 is asked first. If it is wrong, 3 and 4 are left; if not, 0, 1 and 2.
        plan = plan_of_ranks(TWO, (1, 2, 3, 1, 2, 4))
        wrong = ("ask", 4, ("blame", 4), ("ask", 3, ("blame", 3), ("blame", 5)))
        inner = ("ask", 1, ("blame", 1), ("ask", 0, ("blame", 0), ("blame", 2)))
        self.assertEqual(plan, ("ask", 5, wrong, ("ask", 2, inner, ("blame", 6))))
        self.assertEqual(ranks_of_plan(TWO, plan), (1, 2, 3, 1, 2, 4))
        self.assertEqual(below(TWO, 5), (3, 4))
