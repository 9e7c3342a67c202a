"""[27], with the definitions in [2] (HELD, SIZE, READY, DEEDS, FITS, COMES)."""

import itertools
import unittest

from askorhold.deeds import backward, behind, comes, done, fits, is_deed, is_ready, may_do, room_needed, size_of
from shapes import WEBS, chance_webs, line, lots, web_of_callees
from steps import WORDS, plain_may, plain_room, rows_of
from things import ANY

LINE = web_of_callees(line(4))
DEAR = (((), 2, 3), ((0,), 1, 0), ((0,), 4, 1), ((1, 2), 1, 2), ((3,), 1, 9))
ROW = (("put", 0), ("put", 1), ("take", 0), ("put", 2))
CASES = [(web, ()) for web in WEBS[::2]] + list(chance_webs(8, 40, 6))


def plain_comes(web, known, k, held, w):
    is_free = w not in held and w not in known
    return is_free and set(web[w][0]) <= set(held) | set(known) and sum(web[v][1] for v in held) + web[w][2] <= k


def states(web, known):
    """All LOTS that can be HELD."""
    return lots([v for v in range(len(web)) if v not in known])


class IsDeedTest(unittest.TestCase):
    def test_deeds(self):
        for word in WORDS:
            for v in range(4):
                self.assertIs(is_deed(LINE, (word, v)), True)

    def test_things_that_are_none(self):
        for word in WORDS:
            for thing in (
                (word, 4), (word, -1), (word, True), (word, False), (word, 10 ** 49), (word, None), (word, "0"), (word, (0,)), [word, 0],
                (word,), (word, 0, 0), (word.upper(), 0), (0, word), ((word,), 0), (word + " ", 0), (word, [0]), word,
            ):
                self.assertIs(is_deed(LINE, thing), False, thing)
        for thing in (("know", 0), ("", 0), (None, 0), (0, 0), ("ask", 0), ([], 0), ({}, 0)):
            self.assertIs(is_deed(LINE, thing), False, thing)

    def test_any_value(self):
        for thing in ANY:
            self.assertIs(is_deed(LINE, thing), False)
            self.assertIs(is_deed(LINE, (thing, 0)), False)
            self.assertIs(is_deed(LINE, ("put", thing)), repr(thing) in ("0", "1"))


class DeedsTest(unittest.TestCase):
    def test_the_examples(self):
        self.assertEqual([size_of(LINE, (0, 2)), is_ready(LINE, (), (0,), 1), is_ready(LINE, (0,), (), 1)], [2, True, True])
        self.assertEqual([may_do(LINE, (), (0,), ("put", 2)), may_do(LINE, (), (0, 1), ("throw", 0))], [False, False])
        self.assertEqual([may_do(LINE, (), (0, 1), ("throw", 1)), may_do(LINE, (), (1,), ("take", 1))], [True, False])
        self.assertEqual([fits(LINE, (), 1, (0,), ("put", 1)), behind((0, 2), ("put", 1))], [False, (0, 1, 2)])

    def test_size_of(self):
        self.assertEqual([size_of(DEAR, held) for held in ((), (0,), (0, 2), (0, 1, 2, 3, 4))], [0, 2, 6, 9])

    def test_each_sort_of_deed_in_each_state(self):
        for web, known in CASES:
            for held in states(web, known):
                for v in range(len(web)):
                    self.assertIs(is_ready(web, known, held, v), set(web[v][0]) <= set(held) | set(known))
                    for word in WORDS:
                        wanted = plain_may(web, known, held, (word, v))
                        self.assertIs(may_do(web, known, held, (word, v)), wanted, (web, known, held, word, v))
                        if wanted:
                            room = plain_room(web, held, (word, v))
                            for k in {0, room - 1, room, room + 1} - {-1}:
                                self.assertIs(fits(web, known, k, held, (word, v)), k >= room)
                            self.assertEqual(behind(held, (word, v)), tuple(sorted(set(held) ^ {v})))
                        else:
                            self.assertIs(fits(web, known, 10 ** 5, held, (word, v)), False)

    def test_a_put_needs_room_for_its_price_and_its_reading(self):
        self.assertEqual([fits(DEAR, (), k, (), ("put", 0)) for k in (0, 4, 5)], [False, False, True])
        self.assertEqual([fits(DEAR, (), k, (0, 1), ("put", 2)) for k in (7, 8)], [False, True])
        self.assertEqual([fits(DEAR, (0,), k, (1,), ("put", 2)) for k in (5, 6)], [False, True])

    def test_a_take_needs_room_for_what_is_held_and_its_reading(self):
        self.assertEqual([fits(DEAR, (), k, (0,), ("take", 0)) for k in (4, 5)], [False, True])
        self.assertEqual([fits(DEAR, (), k, (0, 2), ("take", 2)) for k in (6, 7)], [False, True])
        self.assertEqual([fits(DEAR, (), k, (0, 1), ("take", 1)) for k in (2, 3)], [False, True])

    def test_a_throw_always_fits(self):
        self.assertIs(fits(DEAR, (), 0, (0, 1, 2), ("throw", 2)), True)
        self.assertIs(fits(DEAR, (), 0, (0, 1, 2), ("throw", 0)), False)
        self.assertIs(fits(DEAR, (), 0, (2,), ("throw", 1)), False)

    def test_a_throw_looks_below_through_those_that_are_known_and_those_that_are_not_held(self):
        self.assertIs(may_do(LINE, (), (0, 3), ("throw", 0)), False)
        self.assertIs(may_do(LINE, (1,), (0, 2), ("throw", 0)), False)
        self.assertIs(may_do(LINE, (), (0, 3), ("throw", 3)), True)
        self.assertIs(may_do(LINE, (), (0,), ("throw", 0)), True)

    def test_behind_a_throw_and_a_take(self):
        self.assertEqual([behind((0, 1, 2), (word, 1)) for word in ("take", "throw")], [(0, 2), (0, 2)])
        self.assertEqual([behind((), ("put", 3)), behind((3,), ("take", 3)), behind((1, 3), ("put", 2))], [(3,), (), (1, 2, 3)])


class ComesTest(unittest.TestCase):
    def test_in_each_state(self):
        for web, known in CASES[::2]:
            for held in states(web, known):
                for w in range(len(web)):
                    for k in range(8):
                        self.assertIs(comes(web, known, k, held, w), plain_comes(web, known, k, held, w))

    def test_to_one_that_is_held_or_known_or_not_ready(self):
        self.assertIs(comes(LINE, (), 9, (0, 1), 1), False)
        self.assertIs(comes(LINE, (1,), 9, (0,), 1), False)
        self.assertIs(comes(LINE, (), 9, (0,), 2), False)
        self.assertIs(comes(LINE, (), 9, (1,), 2), True)
        self.assertIs(comes(LINE, (1,), 0, (), 2), True)
        self.assertIs(comes(LINE, (), 0, (), 0), True)

    def test_its_reading_counts_its_price_does_not(self):
        self.assertEqual([comes(DEAR, (), k, (1, 2), 3) for k in (6, 7)], [False, True])
        self.assertEqual([comes(DEAR, (), k, (0,), 2) for k in (2, 3)], [False, True])
        self.assertEqual([comes(DEAR, (), k, (3,), 4) for k in (9, 10)], [False, True])


class RowsTest(unittest.TestCase):
    def test_the_examples(self):
        self.assertEqual([done(LINE, (), 2, ROW), done(LINE, (), 1, ROW), room_needed(LINE, (), ROW, 3)], [(1, 2), None, 2])
        self.assertEqual([room_needed(LINE, (), ROW[:3], 3), backward(ROW)[:2]], [None, (("take", 2), ("put", 0))])

    def test_lists_and_tuples(self):
        self.assertEqual(done(LINE, (), 2, list(ROW)), (1, 2))
        self.assertEqual(room_needed(LINE, (), list(ROW), 3), 2)
        self.assertEqual(backward(list(ROW)), backward(ROW))
        self.assertEqual(backward(ROW), (("take", 2), ("put", 0), ("take", 1), ("take", 0)))
        for none in ((), []):
            self.assertEqual([done(LINE, (), 0, none), backward(none)], [(), ()])
            self.assertEqual([room_needed(LINE, (), none, 0), room_needed(LINE, (), none, 1)], [0, None])
            self.assertEqual([room_needed(DEAR, (), none, 0), room_needed(DEAR, (3,), none, 4)], [3, 9])

    def test_rows_that_can_be_done(self):
        for seed, (web, known) in enumerate(CASES * 3):
            for k in (3, 6, 100):
                row, held = rows_of(seed, web, known, k, 12)
                self.assertEqual(done(web, known, k, row), held)
                # The least room that all FIT; in one less one of them does not.
                now, room = set(), 0
                for deed in row:
                    room = max(room, plain_room(web, now, deed))
                    now ^= {deed[1]}
                self.assertEqual(done(web, known, room, row), held)
                if room:
                    self.assertIsNone(done(web, known, room - 1, row))
                for w in range(len(web)):
                    needed = room_needed(web, known, row, w)
                    if plain_comes(web, known, 10 ** 6, held, w):
                        self.assertEqual(needed, max(room, size_of(web, held) + web[w][2]))
                    else:
                        self.assertIsNone(needed)

    def test_rows_one_of_which_cannot_be_done(self):
        for row in (
            (("put", 1),), (("take", 0),), (("throw", 0),), (("put", 0), ("put", 0)), (("put", 0), ("put", 2)), ROW + (("take", 2), ("take", 1)),
            ROW + (("throw", 1),), (("put", 0), ("take", 0), ("take", 0)), (("put", 0), ("put", 1), ("throw", 0)),
        ):
            self.assertIsNone(done(LINE, (), 100, row))
            for w in range(4):
                self.assertIsNone(room_needed(LINE, (), row, w))
        self.assertIsNone(done(LINE, (0,), 100, (("put", 0),)))
        self.assertEqual(done(LINE, (0,), 100, (("put", 1),)), (1,))

    def test_a_deed_in_the_middle_that_does_not_fit(self):
        row = (("put", 0), ("put", 1), ("throw", 1), ("throw", 0))
        self.assertEqual([done(LINE, (), k, row) for k in (0, 1, 2)], [None, None, ()])
        self.assertEqual(room_needed(LINE, (), row, 0), 2)
        self.assertEqual([done(DEAR, (), k, (("put", 0),)) for k in (4, 5)], [None, (0,)])
        self.assertEqual([done(DEAR, (), k, (("put", 0), ("put", 2), ("take", 0))) for k in (8, 9)], [None, (2,)])

    def test_to_one_that_is_held_or_known(self):
        self.assertIsNone(room_needed(LINE, (), ROW, 2))
        self.assertIsNone(room_needed(LINE, (), ROW, 1))
        self.assertIsNone(room_needed(LINE, (3,), ROW, 3))
        self.assertEqual(room_needed(LINE, (), ROW, 0), 2)

    def test_readings_count(self):
        self.assertEqual(room_needed(DEAR, (), (("put", 0),), 1), 5)
        self.assertEqual(room_needed(DEAR, (), (("put", 0), ("put", 1), ("take", 0)), 0), 6)
        self.assertEqual(room_needed(DEAR, (2, 3), (), 4), 9)

    def test_backward_is_done_behind_the_row(self):
        for seed, (web, known) in enumerate(CASES * 3):
            for k in (3, 6, 100):
                row, held = rows_of(seed, web, known, k, 12, ("put", "take"))
                back = backward(row)
                self.assertIsInstance(back, tuple)
                self.assertEqual(done(web, known, k, row + back), ())
                for many in range(len(back) + 1):
                    self.assertEqual(done(web, known, k, row + back[:many]), done(web, known, k, row[:len(row) - many]))
                self.assertEqual(backward(back), row)

    def test_a_long_row(self):
        row = ()
        for v in range(59):
            row += (("put", v),) + ((("take", v - 2),) if v > 1 else ())
        web = web_of_callees([(), ()] + [(v, v + 1) for v in range(58)])
        self.assertIsNone(done(web, (), 100, row))
        row = tuple(("put", v) for v in range(59)) + tuple(("take", v) for v in reversed(range(58)))
        self.assertEqual(done(web, (), 59, row), (58,))
        self.assertIsNone(done(web, (), 58, row))
        self.assertEqual(room_needed(web, (), row, 0), 59)

    def test_what_is_passed_in_is_not_changed(self):
        row = list(ROW)
        done(LINE, (), 2, row), room_needed(LINE, (), row, 3), backward(row)
        self.assertEqual(row, list(ROW))


class ExampleRowsTest(unittest.TestCase):
    def test_all_short_rows(self):
        web, known = (((), 1, 1), ((0,), 2, 0), ((0, 1), 1, 0)), ()
        deeds = [(word, v) for word in WORDS for v in range(3)]
        for many in range(4):
            for row in itertools.product(deeds, repeat=many):
                for k in (2, 3, 4):
                    held = ()
                    for deed in row:
                        if held is not None:
                            can = plain_may(web, known, held, deed) and plain_room(web, held, deed) <= k
                            held = tuple(sorted(set(held) ^ {deed[1]})) if can else None
                    self.assertEqual(done(web, known, k, row), held)
