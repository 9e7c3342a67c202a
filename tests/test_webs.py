"""[23], with the definitions in [2]: WEB, NODE, BELOW, KNOWN."""

import itertools
import unittest

from askorhold.webs import above, all_below, below, is_known, is_web, open_below, shadow, with_known
from things import ANY

LEAF = ((), 1, 0)
# 4 calls 2 and 3, both of which call 1; 1 calls 0; 5 stands alone; 6 calls 0 and 4.
SHARED = (LEAF, ((0,), 2, 0), ((1,), 1, 1), ((0, 1), 3, 0), ((2, 3), 1, 0), LEAF, ((0, 4), 1, 2))
CHAIN = (LEAF,) + tuple(((node,), 1, 0) for node in range(59))
WIDE = tuple((tuple(range(max(0, node - 6), node)), node + 1, node % 3) for node in range(60))
WEBS = (SHARED, CHAIN[:9], WIDE[:9], (LEAF,), (LEAF, LEAF))


def paths(web, known, u):
    """What is come to from u by callees that are not known, as plainly as can be."""
    found = set()
    for callee in web[u][0]:
        if callee not in known:
            found |= {callee} | paths(web, known, callee)
    return found


def lots(many):
    for size in range(many + 1):
        yield from itertools.combinations(range(many), size)


class IsTest(unittest.TestCase):
    def test_webs(self):
        for thing in WEBS + (CHAIN, WIDE, (((), 1000, 1000),), (((), 10 ** 9, 10 ** 9),)):
            self.assertIs(is_web(thing), True)

    def test_things_that_are_no_webs(self):
        for node in (
            ((0,), 1, 0), ((1,), 1, 0), ([], 1, 0), [(), 1, 0], ((), 0, 0), ((), -1, 0), ((), True, 0), ((), 1, True),
            ((), 1, False), ((), 1, -1), ((), 1), ((), 1, 0, 0), (), None, ((), None, 0), ((), 1, None), ((), "1", 0),
            (None, 1, 0), (0, 1, 0), ((None,), 1, 0), ((), (1,), 0), ((), 1, [0]), {},
        ):
            with self.subTest(node=node):
                self.assertIs(is_web((node,)), False)
        for node in (
            ((1,), 1, 0), ((2,), 1, 0), ((-1,), 1, 0), ((0, 0), 1, 0), ((0, 1), 1, 0), ((False,), 1, 0), ([0], 1, 0),
            ((0, None), 1, 0), ((10 ** 49,), 1, 0),
        ):
            with self.subTest(node=node):
                self.assertIs(is_web((LEAF, node)), False)
        self.assertIs(is_web((LEAF, LEAF, ((1, 0), 1, 0))), False)
        self.assertIs(is_web((LEAF, LEAF, ((0, 1), 1, 0))), True)
        self.assertIs(is_web((LEAF, LEAF, ((0, True), 1, 0))), False)
        self.assertIs(is_web((LEAF, LEAF, ((True,), 1, 0))), False)
        for thing in (LEAF, [LEAF], (), {0: LEAF}, (LEAF, None), (list(LEAF),), ((((),), 1, 0),)):
            self.assertIs(is_web(thing), False)

    def test_any_value(self):
        for thing in ANY:
            with self.subTest(thing=thing):
                self.assertIs(is_web(thing), False)
                self.assertIs(is_known(SHARED, thing), thing in ((), (0, 1), (0, 1, 2)) and isinstance(thing, tuple))

    def test_known(self):
        for lot in lots(7):
            self.assertIs(is_known(SHARED, lot), True)
        for thing in (
            (7,), (0, 7), (-1,), (1, 0), (0, 0), (True,), (False,), (0, True), [0], [], None, 0, ((0,),), ("0",), {0: 1}, (10 ** 49,),
        ):
            with self.subTest(thing=thing):
                self.assertIs(is_known(SHARED, thing), False)
        self.assertIs(is_known((LEAF,), (0,)), True)
        self.assertIs(is_known((LEAF,), (1,)), False)
        self.assertIs(is_known((LEAF,), ()), True)


class BelowTest(unittest.TestCase):
    def test_below(self):
        self.assertEqual([below(SHARED, u) for u in range(7)], [(), (0,), (0, 1), (0, 1), (0, 1, 2, 3), (), (0, 1, 2, 3, 4)])
        for web in WEBS:
            for u in range(len(web)):
                self.assertEqual(below(web, u), tuple(sorted(paths(web, (), u))))
            self.assertEqual([tuple(sorted(lower)) for lower in all_below(web)], [below(web, u) for u in range(len(web))])

    def test_above(self):
        wanted = [(1, 2, 3, 4, 6), (2, 3, 4, 6), (4, 6), (4, 6), (6,), (), ()]
        self.assertEqual([above(SHARED, v) for v in range(7)], wanted)
        for web in WEBS:
            for v in range(len(web)):
                self.assertEqual(above(web, v), tuple(u for u in range(len(web)) if v in below(web, u)))

    def test_open_below(self):
        self.assertEqual(open_below(SHARED, (1,), 4), (0, 2, 3))
        self.assertEqual(open_below(SHARED, (1,), 2), ())
        self.assertEqual(open_below(SHARED, (3,), 4), (0, 1, 2))
        self.assertEqual(open_below(SHARED, (2, 3), 4), ())
        self.assertEqual(open_below(SHARED, (4,), 6), (0,))
        self.assertEqual(open_below(SHARED, (0, 4), 6), ())
        self.assertEqual(open_below(SHARED, (5, 6), 4), (0, 1, 2, 3))
        for web in WEBS:
            for known in lots(min(7, len(web))):
                for u in range(len(web)):
                    if u not in known:
                        self.assertEqual(open_below(web, known, u), tuple(sorted(paths(web, known, u))))

    def test_shadow(self):
        for web in WEBS:
            for known in lots(min(7, len(web))):
                for u in range(len(web)):
                    self.assertEqual(shadow(web, known, u), tuple(node for node in known if node in paths(web, (), u)))
        self.assertEqual(shadow(SHARED, (0, 2, 5), 4), (0, 2))
        self.assertEqual(shadow(SHARED, (), 4), ())

    def test_with_known(self):
        for one in lots(4):
            for other in lots(4):
                self.assertEqual(with_known(one, other), tuple(n for n in range(4) if n in one or n in other))
        self.assertEqual(with_known((58,), (3, 59)), (3, 58, 59))

    def test_sixty_nodes(self):
        self.assertTrue(is_web(WIDE))
        self.assertEqual(below(WIDE, 59), tuple(range(59)))
        self.assertEqual(above(WIDE, 0), tuple(range(1, 60)))
        self.assertEqual(below(CHAIN, 59), tuple(range(59)))
        self.assertEqual(open_below(CHAIN, (30,), 59), tuple(range(31, 59)))
        self.assertEqual(open_below(WIDE, (20, 21, 22, 23, 24, 25), 59), tuple(range(26, 59)))
        self.assertEqual(open_below(WIDE, (20, 21, 22, 23, 24), 59), tuple(range(20)) + tuple(range(25, 59)))
        self.assertEqual(shadow(WIDE, (3, 40, 59), 41), (3, 40))
        self.assertTrue(is_known(WIDE, tuple(range(60))))
        self.assertFalse(is_known(WIDE, tuple(range(61))))
