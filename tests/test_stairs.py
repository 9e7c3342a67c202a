"""[29], with [27] and [28]."""

import unittest

from askorhold.deeds import behind, comes, fits
from askorhold.rooms import fewest_deeds, least_room
from askorhold.stairs import are_distances, distances, staircase
from askorhold.webs import open_below
from shapes import CASES, chance_webs, check_too_many, line, lots, star, web_of_callees
from steps import WORDS, levels
from things import ANY, spoiled_dicts

LINE = web_of_callees(line(4))
STAR = web_of_callees(star(4), (1, 2), (0, 1))
# Many different rooms are needed.
STEEP = web_of_callees(line(7), (1, 2, 4, 8, 16, 32), (0, 3))


def plain_distances(web, known, w, k):
    far = {}
    for many, level in enumerate(levels(web, known, k, open_below(web, known, w))):
        far.update({lot: many for lot in level})
    return far


def plain_are(web, known, w, k, many, thing):
    """The definition of DISTANCES, word by word."""
    nodes = open_below(web, known, w)
    every = {repr(lot) for lot in lots(nodes)}
    if type(thing) is not dict or not all(repr(lot) in every and type(number) is int for lot, number in thing.items()):
        return False
    if () not in thing or thing[()] != 0:
        return False
    for held, number in thing.items():
        if comes(web, known, k, held, w) and number < many:
            return False
        for deed in [(word, v) for word in WORDS for v in nodes]:
            if fits(web, known, k, held, deed):
                if behind(held, deed) not in thing or thing[behind(held, deed)] > number + 1:
                    return False
    return True


class StaircaseTest(unittest.TestCase):
    def check(self, web, known, w, most):
        told = staircase(web, known, w)
        self.assertIsInstance(told, tuple)
        self.assertEqual(told[0][0], least_room(web, known, w))
        wanted, fewest = [], None
        for room in range(most + 1):
            row = fewest_deeds(web, known, w, room)
            if row is not None and (fewest is None or len(row) < fewest):
                fewest = len(row)
                wanted.append((room, fewest))
        self.assertEqual(told, tuple(wanted), (web, known, w))

    def test_the_examples(self):
        self.assertEqual(staircase(LINE, (), 3), ((2, 4), (3, 3)))

    def test_at_each_room(self):
        for web, known in CASES[::4]:
            self.check(web, known, len(web) - 1, sum(price + reading for _, price, reading in web))
        for web, known in list(chance_webs(5, 10, 6)):
            for w in range(len(web)):
                if w not in known:
                    self.check(web, known, w, sum(price + reading for _, price, reading in web))

    def test_many_steps(self):
        for known in ((), (2,), (0, 3)):
            self.check(STEEP, known, 6, 70)
        self.assertGreater(len(staircase(STEEP, (), 6)), 3)

    def test_no_deed_is_needed(self):
        self.assertEqual(staircase((((), 1, 7),), (), 0), ((7, 0),))
        self.assertEqual(staircase(LINE, (), 0), ((0, 0),))
        self.assertEqual(staircase(LINE, (2,), 3), ((0, 0),))
        self.assertEqual(staircase(LINE, (1,), 3), ((1, 1),))

    def test_a_room_for_a_reading_ends_it(self):
        # 0 is put in room 3, but 1 is come to in room 7 only.
        self.assertEqual(staircase((((), 3, 0), ((0,), 1, 4)), (), 1), ((7, 1),))
        self.assertEqual(staircase((((), 3, 9), ((0,), 1, 4)), (), 1), ((12, 1),))

    def test_lines(self):
        for many in range(1, 9):
            self.check(web_of_callees(line(many)), (), many - 1, many)
        told = staircase(web_of_callees(line(11)), (), 10)
        self.assertEqual([told[0][0], told[-1]], [4, (10, 10)])

    def test_too_many(self):
        check_too_many(self, (staircase,))
        for k in (0, 3):
            check_too_many(self, (lambda web, known, w: distances(web, known, w, k),))


class DistancesTest(unittest.TestCase):
    def test_the_examples(self):
        far = distances(LINE, (), 3, 2)
        self.assertEqual([far[(0, 1)], far[(1,)], far[(1, 2)], (0, 2) in far], [2, 3, 4, False])
        self.assertEqual([are_distances(LINE, (), 3, 2, many, far) for many in (4, 5)], [True, False])

    def test_against_a_going_by_steps(self):
        for web, known in CASES[::2]:
            w = len(web) - 1
            least = least_room(web, known, w)
            for k in sorted({0, least - 1, least, least + 2, 50} - {-1}):
                far = distances(web, known, w, k)
                self.assertIs(type(far), dict)
                self.assertEqual(far, plain_distances(web, known, w, k))
                self.assertEqual(list(far), sorted(far))

    def test_where_nothing_comes(self):
        self.assertEqual(distances(LINE, (), 3, 1), {(): 0, (0,): 1})
        self.assertEqual(distances(LINE, (), 3, 0), {(): 0})
        self.assertEqual(distances((((), 1, 7),), (), 0, 6), {(): 0})
        for web, known in CASES[::5]:
            w = len(web) - 1
            for k in range(least_room(web, known, w)):
                far = distances(web, known, w, k)
                self.assertIs(are_distances(web, known, w, k, 10 ** 49, far), True)

    def test_behind_what_comes_it_goes_on(self):
        self.assertEqual(len(distances(LINE, (), 3, 3)), 8)
        self.assertEqual(distances(web_of_callees(star(3)), (), 2, 9), {(): 0, (0,): 1, (0, 1): 2, (1,): 1})

    def test_what_is_not_open_is_not_done(self):
        self.assertEqual(distances(LINE, (1,), 3, 9), {(): 0, (2,): 1})
        self.assertEqual(distances(LINE, (), 1, 9), {(): 0, (0,): 1})

    def test_they_are_distances_up_to_the_fewest_deeds(self):
        for web, known in CASES[::2]:
            w = len(web) - 1
            for room, many in staircase(web, known, w):
                far = distances(web, known, w, room)
                for number in (-1, 0, many - 1, many, many + 1):
                    self.assertIs(are_distances(web, known, w, room, number, far), number <= many)

    def test_the_result_is_the_callers(self):
        far = distances(LINE, (), 3, 2)
        far[()] = 7
        self.assertEqual(distances(LINE, (), 3, 2)[()], 0)


class AreDistancesTest(unittest.TestCase):
    SMALL = ((LINE, (), 3), (LINE, (1,), 3), (STAR, (), 3), ((((), 1, 7),), (), 0))

    def check(self, web, known, w, k, many, thing):
        wanted = plain_are(web, known, w, k, many, thing)
        self.assertIs(are_distances(web, known, w, k, many, thing), wanted, (web, known, w, k, many, thing))
        return wanted

    def test_one_part_otherwise(self):
        right = 0
        for web, known, w in self.SMALL:
            for k in range(4):
                far = distances(web, known, w, k)
                for thing in spoiled_dicts(far):
                    for many in (0, 1, 3):
                        right += self.check(web, known, w, k, many, thing)
        self.assertGreater(right, 10)

    def test_one_integer_more_or_less(self):
        for web, known, w in self.SMALL:
            for k in range(5):
                far = distances(web, known, w, k)
                for lot in far:
                    for by in (-3, -2, -1, 1, 2):
                        for many in (0, 2, 3, 4):
                            self.check(web, known, w, k, many, {**far, lot: far[lot] + by})

    def test_scaled(self):
        far = distances(LINE, (), 3, 2)
        for times in (-1, 0, 2):
            self.check(LINE, (), 3, 2, 0, {lot: times * far[lot] for lot in far})
        self.assertIs(are_distances(LINE, (), 3, 2, 0, {lot: 0 for lot in far}), True)
        self.assertIs(are_distances(LINE, (), 3, 2, 1, {lot: 0 for lot in far}), False)
        self.assertIs(are_distances(LINE, (), 3, 2, -5, {lot: -2 * far[lot] for lot in far}), False)
        self.assertIs(are_distances(LINE, (), 3, 2, 0, {lot: 1 + far[lot] for lot in far}), False)

    def test_more_entries(self):
        right = 0
        for web, known, w in self.SMALL:
            for k in range(4):
                far = distances(web, known, w, k)
                for lot in lots(range(len(web))):
                    if lot not in far:
                        for number in (-2, 0, 1, 4, 9, 10 ** 49):
                            for many in (0, 4):
                                right += self.check(web, known, w, k, many, {**far, lot: number})
        self.assertGreater(right, 10)

    def test_an_entry_that_can_not_be_led_to_counts(self):
        # In room 1 no row leads to (0, 1), but takes and throws lead away from it.
        far = {(): 0, (0,): 1}
        self.assertIs(are_distances(LINE, (), 3, 1, 9, far), True)
        self.assertIs(are_distances(LINE, (), 3, 1, 9, {**far, (0, 1): 0}), True)
        self.assertIs(are_distances(LINE, (), 3, 1, 9, {**far, (0, 1): -1}), False)
        self.assertIs(are_distances(LINE, (), 3, 1, 9, {**far, (2,): 8}), False)
        self.assertIs(are_distances(LINE, (), 3, 1, 9, {**far, (2,): 9}), True)

    def test_keys_in_any_order(self):
        for web, known, w in self.SMALL:
            far = distances(web, known, w, 3)
            for many in range(5):
                self.check(web, known, w, 3, many, {lot: far[lot] for lot in sorted(far, reverse=True)})

    def test_keys_that_are_no_lots_of_open_nodes(self):
        for lot in ((3,), (-1,), (1, 0), (0, 0), (True,), (False, 1), (1,), (0, 1), 0, None, "", ((),), (4,), ("0",), ((2,),)):
            self.assertIs(are_distances(LINE, (1,), 3, 0, 0, {(): 0, lot: 5}), False, lot)
        self.assertIs(are_distances(LINE, (1,), 3, 0, 0, {(): 0, (2,): 5}), True)
        self.assertIs(are_distances(LINE, (), 3, 0, 0, {(): 0, (0, 3): 5}), False)

    def test_truths_for_integers(self):
        self.assertIs(are_distances(LINE, (), 3, 0, 0, {(): False}), False)
        self.assertIs(are_distances(LINE, (), 3, 1, 0, {(): 0, (0,): True}), False)
        self.assertIs(are_distances(LINE, (), 3, 1, 0, {(): 0, (False,): 1}), False)

    def test_for_other_rooms_and_states(self):
        for web, known, w in self.SMALL:
            for k in range(4):
                far = distances(web, known, w, k)
                for other in range(5):
                    for many in (0, 3, 4):
                        self.check(web, known, w, other, many, far)
                for v in range(len(web)):
                    for lot in lots(range(len(web))):
                        if v not in lot:
                            self.check(web, lot, v, k, 1, far)

    def test_more_than_ten_open_nodes(self):
        web = web_of_callees(star(60), (5,))
        far = {(): 0, **{(v,): 1 for v in range(59)}}
        self.assertIs(are_distances(web, (), 59, 5, 99, far), True)
        self.assertIs(are_distances(web, (), 59, 4, 99, {(): 0}), True)
        self.assertIs(are_distances(web, (), 59, 5, 99, {(): 0}), False)
        del far[(58,)]
        self.assertIs(are_distances(web, (), 59, 5, 99, far), False)

    def test_any_value(self):
        for thing in ANY:
            self.assertIs(are_distances(LINE, (), 3, 0, 0, thing), False)
            self.assertIs(are_distances(LINE, (), 3, 0, 0, {(): thing}), repr(thing) == "0")
            self.assertIs(are_distances(LINE, (), 3, 1, 0, {(): 0, (0,): thing}), repr(thing) in ("0", "1", "-1"))
        for thing in ([((), 0)], (((), 0),), [()], {(): 0}.items(), {None: 0}, {}, {(0,): 0}):
            self.assertIs(are_distances(LINE, (), 3, 0, 0, thing), False)
