"""[28], and the guarantee [7]."""

import unittest

from askorhold.deeds import behind, comes, done, fits, room_needed
from askorhold.least import least_price
from askorhold.rooms import closed_lot, fewest_deeds, is_closed_lot, least_room
from askorhold.webs import open_below
from shapes import CASES, WEBS, chance_webs, check_too_many, line, lots, star, web_of_callees
from steps import WORDS, levels, plain_fewest
from things import ANY, spoiled

LINE = web_of_callees(line(4))
SMALL = ((LINE, (), 3), (LINE, (1,), 3), (web_of_callees(star(4), (1, 2), (0, 1)), (), 3), ((((), 1, 7),), (), 0), (WEBS[25], (), 5))


def plain_least(web, known, w, nodes):
    k = 0
    while plain_fewest(web, known, w, k, nodes) is None:
        k += 1
    return k


def is_plain_closed(web, known, w, k, thing):
    """The definition of a CLOSED LOT, word by word."""
    nodes = open_below(web, known, w)
    if type(thing) is not tuple or not all(repr(lot) in {repr(other) for other in lots(nodes)} for lot in thing):
        return False
    if () not in thing or any(one >= other for one, other in zip(thing, thing[1:])):
        return False
    for held in thing:
        if comes(web, known, k, held, w):
            return False
        for deed in [(word, v) for word in WORDS for v in nodes]:
            if fits(web, known, k, held, deed) and behind(held, deed) not in thing:
                return False
    return True


class LeastRoomTest(unittest.TestCase):
    def test_the_examples(self):
        self.assertEqual(least_room(LINE, (), 3), 2)
        self.assertEqual([len(fewest_deeds(LINE, (), 3, 2)), len(fewest_deeds(LINE, (), 3, 3)), fewest_deeds(LINE, (), 3, 1)], [4, 3, None])
        self.assertEqual(closed_lot(LINE, (), 3, 1), ((), (0,)))
        self.assertEqual([is_closed_lot(LINE, (), 3, k, ((), (0,))) for k in (1, 2)], [True, False])

    def test_against_a_going_through_all_lots_of_open_nodes(self):
        for web, known in CASES[::3]:
            for w in range(len(web)):
                if w not in known:
                    nodes = open_below(web, known, w)
                    self.assertEqual(least_room(web, known, w), plain_least(web, known, w, nodes), (web, known, w))

    def test_against_a_going_through_all_lots_of_all_nodes(self):
        # DEEDS of NODES that are not OPEN below w, those above it and beside it, too, do not help.
        for web, known in list(chance_webs(21, 40, 6)) + [(web, ()) for web in WEBS if len(web) < 6]:
            for w in range(len(web)):
                if w not in known:
                    nodes = [v for v in range(len(web)) if v not in known]
                    self.assertEqual(least_room(web, known, w), plain_least(web, known, w, nodes), (web, known, w))

    def test_it_is_the_least_price(self):
        for web, known in CASES + list(chance_webs(31, 300, 9)):
            for w in range(len(web)):
                if w not in known:
                    self.assertEqual(least_room(web, known, w), least_price(web, known, w), (web, known, w))

    def test_nothing_to_hold(self):
        self.assertEqual([least_room((((), 1, 7),), (), 0), least_room(LINE, (2,), 3), least_room(LINE, (), 0)], [7, 0, 0])

    def test_too_many(self):
        check_too_many(self, (least_room,))
        for k in (0, 3, 1000):
            check_too_many(self, (lambda web, known, w: fewest_deeds(web, known, w, k), lambda web, known, w: closed_lot(web, known, w, k)))


class FewestDeedsTest(unittest.TestCase):
    def test_as_few_as_a_going_by_steps_tells(self):
        for web, known in CASES[::2]:
            w = len(web) - 1
            least = least_room(web, known, w)
            for k in {0, least - 1, least, least + 1, least + 3, 100} - {-1}:
                row = fewest_deeds(web, known, w, k)
                many = plain_fewest(web, known, w, k, open_below(web, known, w))
                if many is None:
                    self.assertIsNone(row)
                    self.assertLess(k, least)
                else:
                    self.assertIsInstance(row, tuple)
                    self.assertEqual(len(row), many)
                    self.assertLessEqual(room_needed(web, known, row, w), k)
                    self.assertTrue(comes(web, known, k, done(web, known, k, row), w))

    def test_other_nodes_do_not_make_it_shorter(self):
        for web, known in chance_webs(41, 30, 6):
            w = len(web) // 2
            if w not in known:
                nodes = [v for v in range(len(web)) if v not in known]
                k = least_room(web, known, w)
                self.assertEqual(len(fewest_deeds(web, known, w, k)), plain_fewest(web, known, w, k, nodes))

    def test_no_deeds(self):
        self.assertEqual(fewest_deeds((((), 1, 7),), (), 0, 7), ())
        self.assertIsNone(fewest_deeds((((), 1, 7),), (), 0, 6))
        self.assertEqual(fewest_deeds(LINE, (2,), 3, 0), ())


class ClosedLotTest(unittest.TestCase):
    def test_just_the_lots_that_can_be_led_to(self):
        for web, known in CASES[::2]:
            w = len(web) - 1
            least = least_room(web, known, w)
            for k in range(least):
                wanted = sorted(held for level in levels(web, known, k, open_below(web, known, w)) for held in level)
                told = closed_lot(web, known, w, k)
                self.assertEqual(told, tuple(wanted))
                self.assertIs(is_closed_lot(web, known, w, k, told), True)
                self.assertTrue(is_plain_closed(web, known, w, k, told))
            for k in (least, least + 1, 1000):
                self.assertIsNone(closed_lot(web, known, w, k))

    def test_a_lot_out(self):
        for web, known, w in SMALL:
            for k in range(least_room(web, known, w)):
                told = closed_lot(web, known, w, k)
                for at in range(len(told)):
                    self.assertIs(is_closed_lot(web, known, w, k, told[:at] + told[at + 1:]), False)

    def test_a_lot_more(self):
        right = 0
        for web, known, w in SMALL:
            for k in range(least_room(web, known, w)):
                told = closed_lot(web, known, w, k)
                for lot in lots(range(len(web))):
                    if lot not in told:
                        thing = tuple(sorted(told + (lot,)))
                        wanted = is_plain_closed(web, known, w, k, thing)
                        right += wanted
                        self.assertIs(is_closed_lot(web, known, w, k, thing), wanted)
        self.assertGreater(right, 0)

    def test_in_another_order_or_twice(self):
        told = closed_lot(LINE, (), 3, 1)
        self.assertEqual(told, ((), (0,)))
        for thing in (((0,), ()), ((), (0,), (0,)), ((), (), (0,)), ((), (0,), ()), [(), (0,)], ([], (0,)), ((), [0]), ((), (False,))):
            self.assertIs(is_closed_lot(LINE, (), 3, 1, thing), False)

    def test_all_lots_of_open_nodes(self):
        for web, known in CASES[::3]:
            w = len(web) - 1
            everything = tuple(sorted(lots(open_below(web, known, w))))
            for k in range(6):
                wanted = not any(comes(web, known, k, held, w) for held in everything)
                self.assertIs(is_closed_lot(web, known, w, k, everything), wanted)
                self.assertIs(is_closed_lot(web, known, w, k, everything[1:]), False)

    def test_throws_lead_to_lots_where_takes_do_not_fit(self):
        for thing, wanted in (
            (((), (0, 1)), False), (((), (0,), (0, 1)), True), (((), (1,)), True), (((), (0,), (0, 2)), True),
            (((), (0, 2), (2,)), False), (((), (0,), (0, 1), (0, 1, 2)), True), (((), (0,), (0, 1, 2)), False),
        ):
            self.assertIs(is_closed_lot(LINE, (), 3, 0, thing), wanted, thing)

    def test_for_other_rooms_and_states(self):
        for web, known, w in SMALL:
            for k in range(least_room(web, known, w)):
                told = closed_lot(web, known, w, k)
                for other in range(k + 4):
                    self.assertIs(is_closed_lot(web, known, w, other, told), is_plain_closed(web, known, w, other, told))
                for v in range(len(web)):
                    for lot in lots(range(len(web))):
                        if v not in lot:
                            self.assertIs(is_closed_lot(web, lot, v, k, told), is_plain_closed(web, lot, v, k, told))

    def test_closed_lots_with_one_part_otherwise(self):
        for web, known, w in SMALL:
            for k in range(least_room(web, known, w)):
                for thing in list(spoiled(closed_lot(web, known, w, k)))[:400]:
                    self.assertIs(is_closed_lot(web, known, w, k, thing), is_plain_closed(web, known, w, k, thing), (web, thing))

    def test_lots_of_nodes_that_are_not_open(self):
        self.assertIs(is_closed_lot(LINE, (1,), 3, 0, ((),)), True)
        for lot in ((0,), (1,), (3,), (4,)):
            self.assertIs(is_closed_lot(LINE, (1,), 3, 0, ((), lot)), False)
        self.assertIs(is_closed_lot(LINE, (), 3, 0, ((),)), True)
        self.assertIs(is_closed_lot(LINE, (), 3, 0, ((), (3,))), False)
        self.assertIs(is_closed_lot(LINE, (), 3, 0, ((), (-1,))), False)

    def test_more_than_ten_open_nodes(self):
        web = web_of_callees(star(60), (5,))
        self.assertIs(is_closed_lot(web, (), 59, 4, ((),)), True)
        self.assertIs(is_closed_lot(web, (), 59, 5, ((),)), False)
        self.assertIs(is_closed_lot(web, (), 59, 5, ((),) + tuple((v,) for v in range(59))), True)
        self.assertIs(is_closed_lot(web, (), 59, 5, ((),) + tuple((v,) for v in range(58))), False)

    def test_any_value(self):
        for thing in ANY:
            self.assertIs(is_closed_lot(LINE, (), 3, 1, thing), False)
            more = ((), (0,), thing)
            self.assertIs(is_closed_lot(LINE, (), 3, 1, more), is_plain_closed(LINE, (), 3, 1, more))
            self.assertIs(is_closed_lot(LINE, (), 3, 0, (thing,)), repr(thing) == "()")
