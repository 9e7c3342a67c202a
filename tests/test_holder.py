"""[35], with [16], [25], [27], [30], [31], [32] and [34], and the guarantees [8] and [9]."""

import unittest

from askorhold.books import book_of
from askorhold.deeds import backward, room_needed
from askorhold.errors import Cannot, Nothing, TooMany, Wrong
from askorhold.holder import Holder
from askorhold.least import least_price
from askorhold.orders import order_behind, order_known
from askorhold.plans import is_plan, price_of
from askorhold.reader import read_program
from askorhold.runs import result_of
from askorhold.skeletons import is_skeleton, skeleton_of, staying, web_in
from askorhold.trees import is_program
from askorhold.webs import open_below
from machines import Model, are_wrong, check_same, do_both, lead, shown_by, state_of, told
from programs import DOWN, FAULTS, FIB, KINDS, RUNS, SHARED, falling_runs
from things import ANY, spoiled

PLAIN = read_program("fun fib ( n ) = if n < 2 then n else fib ( n - 1 ) + fib ( n - 2 ) ;")


def skeleton_for(program, call):
    return skeleton_of(program, book_of(program, call, 60))


def holder_for(program, call, room):
    return Holder(program, skeleton_for(program, call), room)


def pair_for(program, call, room):
    skeleton = skeleton_for(program, call)
    return Holder(program, skeleton, room), Model(program, skeleton, room)


class HolderTest(unittest.TestCase):
    def error_of(self, kind, do, *arguments):
        with self.assertRaises(kind) as caught:
            do(*arguments)
        return caught.exception

    def held(self, deeds, room=3, program=PLAIN, call=("fib", (4,))):
        holder = holder_for(program, call, room)
        for deed in deeds:
            holder.do(deed)
        return holder


class BeginTest(HolderTest):
    def test_what_it_keeps_at_first(self):
        for program, call in RUNS:
            skeleton = skeleton_for(program, call)
            for room in (0, 7, 10 ** 49):
                holder = Holder(program, skeleton, room)
                self.assertEqual(state_of(holder), (program, skeleton, room, (), (), (), (), 0))

    def test_wrong_arguments(self):
        skeleton = skeleton_for(PLAIN, ("fib", (4,)))
        for place, arguments in (
            (0, (None, None, None)), (0, ((), skeleton, 3)), (0, (list(PLAIN), skeleton, 3)), (1, (PLAIN, (), -1)), (1, (PLAIN, skeleton[1:], 3)),
            (1, (PLAIN, list(skeleton), None)), (2, (PLAIN, skeleton, -1)), (2, (PLAIN, skeleton, True)), (2, (PLAIN, skeleton, False)),
            (2, (PLAIN, skeleton, None)), (2, (PLAIN, skeleton, "3")), (2, (PLAIN, skeleton, (3,))), (0, (skeleton, PLAIN, 3)),
        ):
            self.assertEqual(self.error_of(Wrong, Holder, *arguments).place, place, arguments)

    def test_any_value(self):
        skeleton = skeleton_for(PLAIN, ("fib", (1,)))
        for thing in ANY + (Holder(PLAIN, skeleton, 3), Holder):
            self.assertEqual(self.error_of(Wrong, Holder, thing, skeleton, 3).place, 0)
            self.assertEqual(self.error_of(Wrong, Holder, PLAIN, thing, 3).place, 1)
            if not (type(thing) is int and thing >= 0):
                self.assertEqual(self.error_of(Wrong, Holder, PLAIN, skeleton, thing).place, 2)

    def test_programs_and_skeletons_with_a_part_otherwise(self):
        skeleton = skeleton_for(PLAIN, ("fib", (2,)))
        for thing in spoiled(PLAIN):
            if not is_program(thing):
                self.assertEqual(self.error_of(Wrong, Holder, thing, skeleton, 3).place, 0)
        for thing in spoiled(skeleton):
            if not is_skeleton(thing):
                self.assertEqual(self.error_of(Wrong, Holder, PLAIN, thing, 3).place, 1)
            else:
                self.assertEqual(Holder(PLAIN, thing, 3).skeleton(), thing)


class DoTest(HolderTest):
    def test_the_examples(self):
        holder = self.held((("put", 0), ("put", 1), ("put", 2)))
        self.assertEqual([holder.held(), holder.size(), holder.show(2), holder.show(3)], [(0, 1, 2), 3, 1, 2])
        self.assertEqual(self.error_of(Cannot, holder.do, ("put", 3)).deed, ("put", 3))
        self.assertIsNone(holder.do(("take", 1)))
        holder.do(("put", 3))
        order = ((0, ("blame", 0)), (2, ("ask", 1, ("blame", 1), ("blame", 2))), (3, ("blame", 3)))
        self.assertEqual([holder.show(4), holder.order()], [3, order])
        plan = ("ask", 0, ("blame", 0), ("ask", 2, ("ask", 1, ("blame", 1), ("blame", 2)), ("ask", 3, ("blame", 3), ("blame", 4))))
        self.assertEqual(holder.plan(4), plan)
        holder.rewind(2)
        self.assertEqual([holder.held(), holder.tape()], [(0, 1, 2), (("put", 0), ("put", 1), ("put", 2))])
        holder.do(("throw", 2))
        holder.do(("take", 1))
        way = (("put", 1), ("put", 2), ("take", 1), ("put", 3))
        self.assertEqual([holder.tape(), holder.way_to(4), holder.wish(4), holder.held()], [(("take", 1),), way, 3, (0,)])
        holder.know(0)
        self.assertEqual([holder.held(), holder.known(), holder.order(), holder.show(0)], [(), (0,), (), 1])

    def test_each_deed_that_cannot_be_done(self):
        for deeds, room, deed in (
            ((), 9, ("put", 2)), ((("put", 0),), 9, ("put", 0)), ((), 9, ("take", 0)), ((), 9, ("throw", 0)), ((), 0, ("put", 0)),
            ((("put", 0), ("put", 1), ("put", 2)), 9, ("throw", 1)), ((("put", 0), ("put", 1)), 2, ("put", 2)),
            ((("put", 0), ("put", 1), ("put", 2), ("take", 0)), 9, ("take", 2)),
        ):
            holder = self.held(deeds, room)
            before = state_of(holder)
            error = self.error_of(Cannot, holder.do, deed)
            self.assertIs(error.deed, deed)
            self.assertEqual(state_of(holder), before)
        holder = self.held((("put", 0),))
        holder.know(0)
        self.assertEqual(self.error_of(Cannot, holder.do, ("put", 0)).deed, ("put", 0))

    def test_readings_need_room(self):
        # Each CALL of fib reads one let.
        holder = holder_for(FIB, ("fib", (3,)), 2)
        holder.do(("put", 0))
        self.error_of(Cannot, holder.do, ("put", 1))
        self.assertEqual(holder.tape(), (("put", 0),))
        holder = holder_for(FIB, ("fib", (3,)), 1)
        self.error_of(Cannot, holder.do, ("put", 0))
        self.assertEqual([holder.show(0), holder.show(1)], [1, 0])
        holder = holder_for(FIB, ("fib", (3,)), 0)
        self.assertEqual(self.error_of(Cannot, holder.show, 0).deed, ("show", 0))

    def test_things_that_are_no_deeds(self):
        holder = self.held((("put", 0), ("put", 1)))
        things = [
            ("put", 5), ("put", -1), ("put", True), ("take", False), ("throw", None), ("put",), ("put", 2, 3), ["put", 2], ("know", 2),
            ("Put", 2), ("put", "2"), ("put", (2,)), ("take", 10 ** 49), (0, "put"), "put", ("put", [2]),
        ]
        are_wrong(self, holder, "do", [(0, (thing,)) for thing in things + list(ANY) + [holder, Cannot(("put", 0))]])

    def test_a_throw_ends_the_tape(self):
        holder = self.held((("put", 0), ("put", 1), ("throw", 0)))
        self.assertEqual([holder.tape(), holder.held(), holder.order()], [(), (1,), ((1, ("blame", 1)),)])
        holder.do(("put", 0))
        self.assertEqual(holder.tape(), (("put", 0),))
        self.assertEqual(self.error_of(Cannot, self.held((("put", 0), ("throw", 0))).show, 2).deed, ("show", 2))

    def test_what_is_taken_or_thrown_is_kept_no_more(self):
        deeds = (("put", 0), ("put", 1), ("put", 2), ("take", 0), ("take", 1))
        for word in ("take", "throw"):
            holder = self.held(deeds[:3] + ((word, 2),), 9)
            self.assertEqual(self.error_of(Cannot, holder.show, 3).deed, ("show", 3))
        holder = self.held(deeds, 9)
        # 2 can be shown as it is held, and 3 cannot, though it calls 2 and 0.
        self.assertEqual([holder.show(2), holder.show(0), told(holder, "show", 3)[0]], [1, 1, "Cannot"])


class ShowTest(HolderTest):
    def test_any_value(self):
        holder = self.held((("put", 0), ("put", 1)))
        things = [thing for thing in ANY if repr(thing) not in ("0", "1")] + [5, -1, 10 ** 49, True, False, holder, (0,), "0", ["show"]]
        for name in ("show", "plan", "know", "wish", "way_to"):
            are_wrong(self, holder, name, [(0, (thing,)) for thing in things])

    def test_held_come_to_neither(self):
        holder = self.held((("put", 0), ("put", 1)))
        self.assertEqual([told(holder, "show", index)[1] for index in range(3)], [1, 0, 1])
        for index in (3, 4):
            self.assertEqual(self.error_of(Cannot, holder.show, index).deed, ("show", index))
        for index in (0, 1, 3, 4):
            self.assertEqual(self.error_of(Cannot, holder.plan, index).deed, ("plan", index))
        self.assertEqual(holder.plan(2), ("ask", 0, ("blame", 0), ("ask", 1, ("blame", 1), ("blame", 2))))

    def test_calls_that_are_equal_but_not_alike(self):
        holder = holder_for(KINDS, ("pair", ()), 9)
        self.assertEqual([holder.skeleton()[index][0] for index in (0, 1)], [("same", (True,)), ("same", (1,))])
        holder.do(("put", 1))
        self.assertEqual(repr([holder.show(0), holder.show(1), holder.wish(2)]), "[True, 1, (True, 1)]")
        holder.do(("put", 0))
        holder.know(0)
        self.assertEqual(repr([holder.show(0), holder.show(1), holder.show(2)]), "[True, 1, (True, 1)]")

    def test_faults_are_results(self):
        for number, word in enumerate(("zero", "kind", "empty", "great", "zero")):
            holder = holder_for(FAULTS, ("all", (number,)), 9)
            self.assertEqual(holder.wish(len(holder.skeleton()) - 1), ("fault", word))
            holder.do(("put", 0))
            self.assertEqual([holder.show(0), holder.size()], [("fault", word), 1])

    def test_a_call_without_a_function(self):
        holder = holder_for(FAULTS, ("there", ()), 0)
        self.assertEqual([holder.show(0), holder.wish(0), holder.plan(0)], [("fault", "count"), ("fault", "count"), ("blame", 0)])

    def test_heavy_results(self):
        holder = holder_for(DOWN, ("down", (3,)), 6)
        holder.do(("put", 0))
        holder.do(("put", 1))
        self.assertEqual([holder.size(), told(holder, "do", ("put", 2))[0]], [3, "returned"])
        self.assertEqual([holder.size(), holder.show(3)], [6, ((((),),),)])
        self.assertEqual(self.error_of(Cannot, holder.do, ("put", 3)).deed, ("put", 3))


class KnowTest(HolderTest):
    def test_held_come_to_not_shown_known(self):
        holder = self.held((("put", 0), ("put", 1)))
        self.assertIsNone(holder.know(2))
        self.assertEqual([holder.held(), holder.known(), holder.tape(), holder.show(2), holder.show(3)], [(0, 1), (2,), (), 1, 2])
        holder.know(1)
        self.assertEqual([holder.held(), holder.known(), holder.order(), holder.size()], [(0,), (1, 2), ((0, ("blame", 0)),), 1])
        for index in (1, 2, 4):
            before = state_of(holder)
            self.assertEqual(self.error_of(Cannot, holder.know, index).deed, ("know", index))
            self.assertEqual(state_of(holder), before)

    def test_the_order_is_that_for_what_is_known(self):
        deeds = (("put", 0), ("put", 1), ("put", 2), ("take", 1))
        for index in (0, 2, 3):
            holder = self.held(deeds)
            order = holder.order()
            holder.know(index)
            self.assertEqual(holder.order(), order_known(order, (index,)))
            self.assertEqual(holder.tape(), ())
        holder = self.held(deeds)
        holder.know(1)
        self.assertEqual(holder.order(), ((0, ("blame", 0)), (2, ("blame", 2))))

    def test_what_is_known_needs_no_room(self):
        holder = holder_for(PLAIN, ("fib", (9,)), 1)
        for index in range(10):
            holder.know(index)
        self.assertEqual([holder.known(), holder.size(), holder.show(9), holder.held()], [tuple(range(10)), 0, 34, ()])
        for index in range(10):
            self.assertEqual(holder.show(index), result_of(PLAIN, holder.skeleton()[index][0], 60))

    def test_what_is_known_is_not_put_taken_or_thrown(self):
        holder = self.held((("put", 0), ("put", 1)))
        holder.know(1)
        for word in ("put", "take", "throw"):
            self.assertEqual(self.error_of(Cannot, holder.do, (word, 1)).deed, (word, 1))


class WishTest(HolderTest):
    def test_at_the_least_price_and_at_one_less(self):
        cases = [(program, call) for program, call in RUNS if len(book_of(program, call, 60)) < 11]
        for program, call in cases + [(program, book[-1][0]) for program, book in falling_runs(8, 15, 3, 10)]:
            skeleton = skeleton_for(program, call)
            for index in range(len(skeleton)):
                price = least_price(web_in(skeleton), (), index)
                holder = Holder(program, skeleton, price)
                self.assertEqual(repr(holder.wish(index)), repr(result_of(program, skeleton[index][0], 60)))
                self.assertEqual(state_of(holder)[3:], ((), (), (), (), 0))
                if price > 0:
                    holder = Holder(program, skeleton, price - 1)
                    self.assertEqual(self.error_of(Cannot, holder.wish, index).deed, ("wish", index))
                    self.assertEqual(self.error_of(Cannot, holder.way_to, index).deed, ("way", index))
                    self.assertEqual(state_of(holder)[3:], ((), (), (), (), 0))

    def test_what_is_held_needs_its_room(self):
        ends = {}
        for program, book in falling_runs(9, 60, 4, 11):
            skeleton = skeleton_of(program, book)
            web, index = web_in(skeleton), len(book) - 1
            firsts = [v for v in range(index) if not web[v][0]]
            known, held = tuple(firsts[:1]), tuple(firsts[1:3])
            least = least_price(web, tuple(sorted(known + held)), index) + sum(web[v][1] for v in held)
            for room in (least, least - 1):
                if room < 0:
                    continue
                holder = Holder(program, skeleton, room)
                begun = [told(holder, "know", v) for v in known] + [told(holder, "do", ("put", v)) for v in held]
                if any(end != ("returned", None) for end in begun) or told(holder, "show", index)[0] == "returned":
                    continue
                before, shown = state_of(holder), shown_by(holder)
                end = told(holder, "wish", index)
                wanted = ("returned", book[-1][1]) if room == least else ("Cannot", {"deed": ("wish", index)})
                self.assertEqual(repr(end), repr(wanted))
                self.assertEqual([state_of(holder), shown_by(holder)], [before, shown])
                ends[end[0]] = ends.get(end[0], 0) + 1
        self.assertGreater(min(ends["returned"], ends["Cannot"]), 10)

    def test_the_way_can_be_done(self):
        for program, book in falling_runs(10, 25, 4, 11):
            skeleton = skeleton_of(program, book)
            web, index = web_in(skeleton), len(book) - 1
            holder = Holder(program, skeleton, least_price(web, (), index))
            way = holder.way_to(index)
            self.assertLessEqual(room_needed(web, (), way, index), holder.room())
            for deed in way:
                holder.do(deed)
                self.assertLessEqual(holder.size(), holder.room())
            self.assertEqual([repr(holder.show(index)), holder.way_to(index), repr(holder.wish(index))], [repr(book[-1][1]), (), repr(book[-1][1])])
            plan = holder.plan(index)
            self.assertTrue(is_plan(web, (), index, plan))
            self.assertLessEqual(price_of(web, plan), holder.room())
            for deed in backward(way):
                holder.do(deed)
            self.assertEqual(holder.held(), ())

    def test_too_many_comes_ahead_of_cannot(self):
        program = read_program("fun f ( n ) = if n == 0 then 0 else f ( n - 1 ) + 1 ;")
        for room in (0, 100):
            holder = holder_for(program, ("f", (12,)), room)
            for index, many in ((10, 10), (11, 11), (12, 12)):
                self.assertEqual(len(open_below(web_in(holder.skeleton()), (), index)), many)
                for name, word in (("wish", "wish"), ("way_to", "way")):
                    if many > 10:
                        self.assertEqual(self.error_of(TooMany, getattr(holder, name), index).most, 10)
                    elif room == 0:
                        self.assertEqual(self.error_of(Cannot, getattr(holder, name), index).deed, (word, index))
            if room:
                self.assertEqual(holder.wish(10), 10)
                holder.do(("put", 0))
                self.assertEqual([holder.wish(11), told(holder, "wish", 12)[0]], [11, "TooMany"])
                holder.know(0)
                holder.know(1)
                self.assertEqual(holder.wish(12), 12)

    def test_what_is_held_above_counts_too(self):
        holder = self.held((("put", 0), ("put", 1), ("put", 2), ("take", 1), ("put", 3), ("take", 0)))
        self.assertEqual([holder.held(), holder.order()[0][0]], [(2, 3), 2])
        before = state_of(holder)
        self.assertEqual([holder.wish(4), holder.wish(1), holder.wish(0), state_of(holder)], [3, 0, 1, before])
        holder = self.held((("put", 0), ("put", 1), ("put", 2)), 3)
        self.assertEqual(self.error_of(Cannot, holder.wish, 4).deed, ("wish", 4))


class RewindTest(HolderTest):
    ROW = (("put", 0), ("put", 1), ("put", 2), ("take", 1), ("put", 3), ("take", 0), ("put", 4))

    def test_none_some_all_more(self):
        for many in range(len(self.ROW) + 1):
            holder = self.held(self.ROW, 4)
            shown = shown_by(self.held(self.ROW[:len(self.ROW) - many], 4))
            order = holder.order()
            self.assertIsNone(holder.rewind(many))
            self.assertEqual(holder.tape(), self.ROW[:len(self.ROW) - many])
            self.assertEqual(holder.held(), self.held(self.ROW[:len(self.ROW) - many], 4).held())
            self.assertEqual(shown_by(holder), shown)
            for deed in backward(self.ROW)[:many]:
                order = order_behind(web_in(holder.skeleton()), (), 4, order, deed)
            self.assertEqual(holder.order(), order)
        for many in (8, 9, 10 ** 49):
            before = state_of(holder)
            self.error_of(Nothing, holder.rewind, many)
            self.assertEqual(state_of(holder), before)

    def test_behind_a_throw_a_know_and_an_edit(self):
        for name, arguments in (("do", (("throw", 4),)), ("know", (1,)), ("edit", (PLAIN, skeleton_for(PLAIN, ("fib", (4,)))))):
            holder = self.held(self.ROW, 4)
            getattr(holder, name)(*arguments)
            self.assertEqual(holder.tape(), ())
            self.error_of(Nothing, holder.rewind, 1)
            self.assertIsNone(holder.rewind(0))
        holder = self.held(self.ROW[:3], 4)
        holder.know(0)
        holder.do(("take", 2))
        holder.rewind(1)
        self.assertEqual([holder.held(), holder.tape()], [(1, 2), ()])

    def test_a_wish_leaves_the_tape(self):
        holder = self.held(self.ROW[:4], 4)
        holder.wish(4)
        holder.rewind(4)
        self.assertEqual([holder.held(), holder.tape(), holder.order()], [(), (), ()])

    def test_any_value(self):
        holder = self.held(self.ROW, 4)
        things = [thing for thing in ANY if not (type(thing) is int and thing >= 0)] + [holder, "1", (1,), [1], -2]
        are_wrong(self, holder, "rewind", [(0, (thing,)) for thing in things])


class EditTest(HolderTest):
    def test_what_stays(self):
        # d is changed: c and e stay, with other indexes.
        holder = holder_for(SHARED, ("top", ()), 9)
        for deed in (("put", 0), ("put", 1), ("put", 2), ("put", 3), ("take", 2)):
            holder.do(deed)
        self.assertEqual([holder.skeleton()[index][0][0] for index in range(6)], ["e", "c", "d", "a", "b", "top"])
        text = "fun top ( ) = [ b ( ) , a ( ) , c ( ) ] ; fun a ( ) = c ( ) + d ( ) ; fun b ( ) = d ( ) ; fun c ( ) = e ( ) ; fun d ( ) = 5 ;"
        other = read_program(text + " fun e ( ) = 3 ;")
        later = skeleton_for(other, ("top", ()))
        self.assertIsNone(holder.edit(other, later))
        self.assertEqual([later[index][0][0] for index in range(6)], ["d", "b", "e", "c", "a", "top"])
        self.assertEqual(state_of(holder), (other, later, 9, (2, 3), (), ((2, ("blame", 2)), (3, ("blame", 3))), (), 2))
        self.assertEqual([holder.show(2), holder.show(3), holder.show(0), holder.wish(5)], [3, 3, 5, (5, 8, 3)])

    def test_plans_and_known_ones_are_renamed(self):
        holder = holder_for(SHARED, ("top", ()), 9)
        for deed in (("put", 0), ("put", 1), ("take", 0), ("put", 2)):
            holder.do(deed)
        holder.know(2)
        text = "fun top ( ) = [ b ( ) , a ( ) , c ( ) ] ; fun a ( ) = c ( ) + d ( ) ; fun b ( ) = d ( ) ; fun c ( ) = e ( ) ; fun d ( ) = 2 ;"
        other = read_program(text + " fun e ( ) = 3 ;")
        holder.edit(other, skeleton_for(other, ("top", ())))
        self.assertEqual(state_of(holder)[3:], ((3,), (0,), ((3, ("ask", 2, ("blame", 2), ("blame", 3))),), (), 1))
        self.assertEqual([holder.show(0), holder.show(3), holder.show(1), told(holder, "show", 5)[0]], [2, 3, 2, "Cannot"])

    def test_all_and_none_stay(self):
        deeds = (("put", 0), ("put", 1), ("put", 2), ("take", 1))
        holder = self.held(deeds)
        order = holder.order()
        holder.edit(PLAIN, skeleton_for(PLAIN, ("fib", (6,))))
        self.assertEqual([holder.held(), holder.order(), holder.tape(), holder.show(3)], [(0, 2), order, (), 2])
        later = read_program("fun fib ( n ) = if n < 2 then n else fab ( n ) + fib ( n - 2 ) ; fun fab ( n ) = fib ( n - 1 ) ;")
        holder.edit(later, skeleton_for(later, ("fib", (4,))))
        self.assertEqual(state_of(holder)[2:], (3, (), (), (), (), 0))
        self.assertEqual(staying(PLAIN, skeleton_for(PLAIN, ("fib", (4,))), later, holder.skeleton()), {})
        self.assertEqual([holder.program(), holder.wish(1)], [later, 1])

    def test_wrong_arguments(self):
        holder = self.held((("put", 0), ("put", 1)))
        skeleton = holder.skeleton()
        rows = [(0, (None, None)), (0, ((), skeleton)), (0, (skeleton, PLAIN))]
        rows += [(1, (PLAIN, thing)) for thing in (PLAIN, skeleton[1:], list(skeleton))]
        rows += [(0, (thing, skeleton)) for thing in ANY] + [(1, (PLAIN, thing)) for thing in ANY]
        rows += [(0, (thing, skeleton)) for thing in spoiled(PLAIN) if not is_program(thing)]
        rows += [(1, (PLAIN, thing)) for thing in spoiled(skeleton) if not is_skeleton(thing)]
        are_wrong(self, holder, "edit", rows)


class TwinTest(HolderTest):
    def test_each_goes_its_own_way(self):
        holder = self.held((("put", 0), ("put", 1)))
        holder.know(1)
        before = state_of(holder)
        twin = holder.twin()
        self.assertIsInstance(twin, Holder)
        self.assertEqual([state_of(twin), shown_by(twin)], [before, shown_by(holder)])
        twin.do(("put", 2))
        twin.do(("take", 0))
        self.assertEqual([state_of(holder), holder.show(0), holder.show(2)], [before, 1, 1])
        self.assertEqual([twin.held(), told(twin, "show", 3)[0]], [(2,), "Cannot"])
        twin = holder.twin()
        holder.do(("take", 0))
        holder.edit(SHARED, skeleton_for(SHARED, ("a", ())))
        self.assertEqual([state_of(twin), twin.show(0), twin.show(1)], [before, 1, 0])
        twin.rewind(0)
        self.assertEqual([holder.held(), holder.known(), holder.program()], [(), (), SHARED])


class ReturnedTest(HolderTest):
    def test_all_that_is_returned_is_made_of_tuples(self):
        # So no caller can change the Holder by what it returned.
        holder = self.held((("put", 0), ("put", 1), ("take", 1)))
        holder.know(0)
        waiting = list(state_of(holder)) + [holder.show(1), holder.wish(4), holder.plan(1), holder.way_to(4)]
        while waiting:
            part = waiting.pop()
            self.assertIn(type(part), (tuple, int, str, bool))
            waiting.extend(part if type(part) is tuple else ())


class LivesTest(HolderTest):
    def test_rows_of_calls(self):
        ends = {}
        cases = [(program, book_of(program, call, 60)) for program, call in RUNS] + falling_runs(20, 50, 4, 20)
        for seed, (program, book) in enumerate(cases):
            skeleton = skeleton_of(program, book)
            web = web_in(skeleton)
            most = max(node[1] + node[2] for node in web)
            for room in {most, most + 3, 2 * most + 2, 100}:
                holder, model = Holder(program, skeleton, room), Model(program, skeleton, room)
                for key, many in lead(self, holder, model, seed, 40).items():
                    ends[key] = ends.get(key, 0) + many
        for name in ("do", "show", "plan", "know", "wish", "way_to"):
            self.assertGreater(ends.get((name, "returned"), 0), 50, name)
            self.assertGreater(ends.get((name, "Cannot"), 0), 20, name)
        self.assertGreater(ends[("rewind", "returned")], 50)
        self.assertGreater(ends[("rewind", "Nothing")], 20)
        self.assertGreater(ends[("wish", "TooMany")], 5)

    def test_rows_of_calls_with_edits(self):
        runs = falling_runs(30, 40, 5, 16)
        kept = 0
        for seed, ((program, book), (another, _)) in enumerate(zip(runs, runs[1:])):
            edits = []
            for at in range(4):
                other = program[:at] + (another[at],) + program[at + 1:]
                edits.append((other, skeleton_for(other, book[-1][0])))
            edits.append((program, skeleton_of(program, book)))
            for room in (12, 60):
                holder, model = Holder(program, edits[-1][1], room), Model(program, edits[-1][1], room)
                for turn in range(5):
                    lead(self, holder, model, 100 * seed + turn, 12)
                    do_both(self, holder, model, "edit", *edits[(seed + turn) % 5])
                    kept += len(holder.held()) + len(holder.known())
                    check_same(self, holder, model)
        self.assertGreater(kept, 300)
