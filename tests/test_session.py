"""[37] and [38], with [13], [18], [25] and [36], and the guarantee [10]."""

import random
import unittest

from askorhold.books import book_of, web_of
from askorhold.errors import AskError, Contrary, Endless, Nothing, NothingToAsk, TooMany, Wrong
from askorhold.facts import fact_of, known_right
from askorhold.forms import is_name, is_value
from askorhold.least import least_price
from askorhold.meanings import wrong_in
from askorhold.reader import read_function, read_program
from askorhold.session import Session
from askorhold.trees import changed_names, function_of, is_function, is_program, with_function
from askorhold.webs import below, open_below
from programs import DOWN, FAULTS, FIB, KINDS, RUNS, SHARED, falling_runs
from searches import begin_of, by_chance, by_meaning, check_blamed, plain_promise, searched, snapshot
from things import ANY, spoiled

SHOWN = read_program("fun twice ( x ) = x + one ( x ) ; fun one ( x ) = x + 1 ; fun both ( x ) = [ twice ( x ) , one ( x ) , twice ( 0 ) ] ;")
MEANT = read_program("fun twice ( x ) = x + x ; fun one ( x ) = x ; fun both ( x ) = [ twice ( x ) , one ( x ) , twice ( 0 ) ] ;")
EVER = read_program("fun f ( n ) = g ( n ) ; fun g ( n ) = if n then f ( n ) else 1 ; fun up ( n ) = up ( n + 1 ) ;")
# 14 stand one behind the other, and 13 beside one another.
ROW = read_program("fun f ( n ) = if n == 0 then 0 else f ( n - 1 ) + 1 ;")
WIDE = read_program(
    "fun top ( ) = [ " + " , ".join(f"at ( {at} )" for at in range(13)) + " ] ; fun at ( n ) = let m = n in if n < 7 then [ m , m ] else n ;"
)


class SessionTest(unittest.TestCase):
    def error_of(self, kind, do, *arguments):
        with self.assertRaises(kind) as caught:
            do(*arguments)
        return caught.exception

    def wrong(self, session, name, place, *arguments):
        before = snapshot(session)
        self.assertEqual(self.error_of(Wrong, getattr(session, name), *arguments).place, place, arguments)
        self.assertEqual(snapshot(session), before)

    def ran(self, program, call):
        session = Session(program)
        session.run(*call)
        return session


class BeginTest(SessionTest):
    def test_what_it_keeps_at_first(self):
        for program in (SHOWN, FIB, SHARED, KINDS, FAULTS):
            session = Session(program)
            self.assertEqual([session.program(), session.facts(), session.book()], [program, (), ()])
            self.assertEqual([session.question(), session.blamed(), session.spent(), session.left()], [None, None, 0, 0])
            self.error_of(Nothing, session.undo)
            self.error_of(NothingToAsk, session.answer, True)

    def test_wrong_programs(self):
        for thing in ANY + (Session(FIB), Session, list(FIB), FIB[0], FIB + FIB, [FIB[0]]):
            self.assertEqual(self.error_of(Wrong, Session, thing).place, 0)
        for thing in spoiled(SHOWN[:2]):
            if is_program(thing):
                self.assertEqual(Session(thing).program(), thing)
            else:
                self.assertEqual(self.error_of(Wrong, Session, thing).place, 0)


class RunTest(SessionTest):
    def test_the_book_and_its_result(self):
        for program, call in RUNS:
            session = Session(program)
            self.assertEqual(repr(session.run(*call)), repr(book_of(program, call, 60)[-1][1]))
            self.assertEqual(repr(session.book()), repr(book_of(program, call, 60)))
            self.assertEqual([session.program(), session.facts(), session.question()], [program, (), None])

    def test_another_run_ends_the_search(self):
        session = self.ran(SHOWN, ("both", (2,)))
        session.seek(4)
        session.answer(False)
        facts = session.facts()
        self.assertEqual(session.run("one", (5,)), 6)
        self.assertEqual([session.question(), session.blamed(), session.spent(), session.left(), session.facts()], [None, None, 0, 0, facts])
        self.assertEqual(len(session.book()), 1)
        self.error_of(NothingToAsk, session.answer, False)

    def test_endless_and_too_many(self):
        session = self.ran(EVER, ("f", (False,)))
        before = snapshot(session)
        self.assertEqual(self.error_of(Endless, session.run, "f", (True,)).call, ("f", (True,)))
        self.assertEqual(self.error_of(TooMany, session.run, "up", (0,)).most, 60)
        self.assertEqual(snapshot(session), before)
        session.undo()
        self.assertEqual([session.book(), self.error_of(Nothing, session.undo) is None], [(), False])

    def test_just_sixty(self):
        session = Session(DOWN)
        session.run("down", (59,))
        self.assertEqual(len(session.book()), 60)
        self.assertEqual(self.error_of(TooMany, session.run, "down", (60,)).most, 60)
        self.assertEqual(len(session.book()), 60)

    def test_wrong_names_and_values(self):
        session = self.ran(SHOWN, ("one", (2,)))
        for name in ("if", "", "Ab", "a1", "abcdefghijklm", None, 3, True, ["one"], ("one",), session):
            for values in ((2,), None):
                self.wrong(session, "run", 0, name, values)
        for values in (None, 2, [2], (None,), ("2",), ([],), ((1, [2]),), "", {}, session, (session,), ({},)):
            self.wrong(session, "run", 1, "one", values)
        for thing in ANY:
            if not is_name(thing):
                self.wrong(session, "run", 0, thing, (2,))
            if type(thing) is not tuple or not is_value(thing):
                self.wrong(session, "run", 1, "one", thing)

    def test_a_call_without_a_function(self):
        session = Session(SHOWN)
        self.assertEqual([session.run("three", (1,)), session.run("one", ()), session.run("one", (1, 2))], [("fault", "count")] * 3)
        self.assertEqual(session.seek(0), 0)
        self.assertEqual([session.blamed(), session.spent(), session.left()], [0, 0, 0])


class EditTest(SessionTest):
    def test_in_the_place_of_one_and_behind_all(self):
        session = self.ran(SHOWN, ("both", (2,)))
        session.seek(4)
        facts = session.facts()
        one, new = read_function("fun one ( x ) = x ;"), read_function("fun new ( ) = one ( 1 ) ;")
        self.assertIsNone(session.edit(one))
        self.assertEqual(session.program(), (SHOWN[0], one, SHOWN[2]))
        self.assertEqual([session.book(), session.question(), session.blamed(), session.spent(), session.left()], [(), None, None, 0, 0])
        self.assertEqual(session.facts(), facts)
        session.edit(new)
        self.assertEqual(session.program(), (SHOWN[0], one, SHOWN[2], new))
        self.assertEqual(session.run("new", ()), 1)

    def test_wrong_functions(self):
        session = self.ran(SHOWN, ("both", (2,)))
        function = read_function("fun one ( x , y ) = if x < y then let z = f ( x ) in [ z , true ] else first ( 1 ) ;")
        for thing in ANY + (session, SHOWN, list(function), ("one", ("x",), ("name", "y"))):
            self.wrong(session, "edit", 0, thing)
        for thing in spoiled(function):
            if is_function(thing):
                other = Session(SHOWN)
                other.edit(thing)
                self.assertEqual(other.program(), with_function(SHOWN, thing))
            else:
                self.wrong(session, "edit", 0, thing)


class UndoTest(SessionTest):
    def test_each_call_one_behind_the_other(self):
        session = Session(SHOWN)
        shots = []
        for name, arguments in (
            ("run", ("both", (2,))), ("seek", (4,)), ("answer", (True,)), ("answer", (False,)), ("edit", (read_function("fun one ( x ) = x ;"),)),
            ("run", ("twice", (2,))), ("edit", (read_function("fun two ( x ) = 2 ;"),)), ("run", ("both", (2,))), ("run", ("one", (2,))),
        ):
            shots.append(snapshot(session))
            getattr(session, name)(*arguments)
        shots.append(snapshot(session))
        self.assertEqual(len(set(shots)), len(shots))
        for shot in shots[::-1][1:]:
            self.assertIsNone(session.undo())
            self.assertEqual(snapshot(session), shot)
        for _ in range(2):
            self.error_of(Nothing, session.undo)
            self.assertEqual(snapshot(session), shots[0])

    def test_a_search_begun_twice(self):
        session = self.ran(SHOWN, ("both", (2,)))
        session.seek(4)
        session.answer(True)
        shot = snapshot(session)
        session.seek(4)
        self.assertEqual([session.spent(), session.facts()[1][2]], [0, True])
        session.undo()
        self.assertEqual([snapshot(session), session.spent() > 0], [shot, True])

    def test_what_raised_is_not_undone(self):
        session = self.ran(SHOWN, ("both", (2,)))
        session.seek(4)
        shot = snapshot(session)
        session.answer(True)
        for name, arguments in (
            ("run", ("up", [])), ("run", (1, ())), ("edit", (None,)), ("seek", (9,)), ("seek", (True,)), ("answer", (1,)), ("answer", (None,)),
        ):
            self.error_of(AskError, getattr(session, name), *arguments)
        session.undo()
        self.assertEqual(snapshot(session), shot)

    def test_rows_of_calls(self):
        # Whatever is called and undone, it is as if what was undone had not been.
        for seed, (program, book) in enumerate(falling_runs(40, 12, 4, 20)):
            chance = random.Random(seed)
            session, shots = Session(program), []
            for _ in range(30):
                before = snapshot(session)
                name = chance.choice(("run", "edit", "seek", "answer", "answer", "answer", "undo"))
                arguments = {
                    "run": book[chance.randrange(len(book))][0], "edit": (chance.choice(program),), "seek": (chance.randrange(20),),
                    "answer": (chance.random() < 0.5,), "undo": (),
                }[name]
                try:
                    getattr(session, name)(*arguments)
                except AskError:
                    self.assertEqual(snapshot(session), before)
                    continue
                if name == "undo":
                    self.assertEqual(snapshot(session), shots.pop())
                else:
                    shots.append(before)
            while shots:
                session.undo()
                self.assertEqual(snapshot(session), shots.pop())


class SeekTest(SessionTest):
    def test_the_examples(self):
        session = self.ran(SHOWN, ("both", (2,)))
        self.assertEqual([session.seek(4), session.facts()], [3, ((("both", (2,)), (5, 3, 1), False),)])
        while session.question() is not None:
            session.answer(False)
        blamed = session.blamed()
        self.assertEqual([blamed in (0, 2), 1 <= session.spent() <= 3, session.left()], [True, True, 0])
        session.edit(read_function("fun one ( x ) = x ;"))
        self.assertEqual([session.book(), session.run("both", (2,)), session.spent()], [(), (4, 2, 0), 0])
        self.assertIsNone(fact_of(session.facts(), ("both", (2,)), (4, 2, 0)))
        self.assertEqual([session.undo(), session.undo(), session.blamed() == blamed, len(session.book())], [None, None, True, 5])
        self.assertEqual(known_right(session.facts(), session.book()), ())

    def test_no_index(self):
        session = self.ran(SHOWN, ("both", (2,)))
        things = [5, -1, 10 ** 49, True, False, None, "4", (4,), [4], session]
        for thing in things + [thing for thing in ANY if repr(thing) not in ("0", "1")]:
            self.wrong(session, "seek", 0, thing)
        for session in (Session(SHOWN), session):
            session.edit(SHOWN[0])
            for index in (0, 1, 4, -1):
                self.wrong(session, "seek", 0, index)

    def test_an_entry_that_is_known_to_be_right(self):
        session = self.ran(SHOWN, ("both", (2,)))
        session.seek(4)
        x = session.question()
        session.answer(True)
        before = snapshot(session)
        self.assertEqual(self.error_of(Contrary, session.seek, x).call, session.book()[x][0])
        self.assertEqual(snapshot(session), before)

    def test_a_fact_that_is_told_is_not_told_again(self):
        session = self.ran(SHOWN, ("both", (2,)))
        session.seek(4)
        session.seek(4)
        self.assertEqual(len(session.facts()), 1)
        session.undo()
        self.assertEqual([session.question() is None, len(session.facts())], [False, 1])
        session.seek(1)
        self.assertEqual(session.facts()[1], (("twice", (2,)), 5, False))

    def test_another_result_is_known_to_be_right(self):
        session = self.ran(MEANT, ("one", (2,)))
        session.edit(read_function("fun cover ( x ) = one ( x ) ;"))
        session.run("cover", (2,))
        session.seek(1)
        session.answer(True)
        session.edit(SHOWN[1])
        session.run("cover", (2,))
        # one ( 2 ) = 2 is right, so 3 is wrong: that is no new fact, and it is not asked.
        facts = session.facts()
        self.assertEqual([session.seek(0), session.facts(), session.blamed()], [0, facts, 0])
        self.assertEqual([session.seek(1), session.blamed(), len(session.facts())], [0, 0, len(facts) + 1])

    def test_the_least_promise_of_the_wrong_ones(self):
        session = self.ran(SHARED, ("top", ()))
        self.assertEqual([entry[0][0] for entry in session.book()], ["e", "c", "d", "a", "b", "top"])
        session.seek(3)
        session.seek(1)
        # a has two below it, c one; c is below a.
        self.assertEqual([session.seek(5), session.question()], [1, 0])
        session.undo()
        self.assertEqual([session.seek(3), session.question()], [1, 0])
        session.seek(4)
        # b and c both have the PROMISE 1: c is the least. b is not below a.
        self.assertEqual([session.seek(5), session.question(), begin_of(session, 5)], [1, 0, (1, 1)])
        self.assertEqual([session.seek(4), session.question()], [1, 2])
        self.assertEqual([session.seek(3), session.question()], [1, 0])

    def test_a_wrong_one_below_known_ones_counts(self):
        # mid is told to be right while it does not call low; then it does, and low is told to be wrong.
        for low, promise, blamed in (("1", 0, 0), ("let n = 1 in n", 1, 0), ("let n = let m = 1 in m in n", 1, 2)):
            session = Session(read_program(f"fun top ( ) = let n = mid ( ) in n ; fun mid ( ) = 1 ; fun low ( ) = {low} ;"))
            session.run("top", ())
            self.assertEqual([session.seek(1), session.question()], [2, 0])
            session.answer(True)
            session.edit(read_function("fun mid ( ) = low ( ) ;"))
            session.run("low", ())
            session.seek(0)
            session.run("top", ())
            web = web_of(session.program(), session.book())
            self.assertEqual([known_right(session.facts(), session.book()), open_below(web, (1,), 2)], [(1,), ()])
            self.assertEqual([session.seek(2), session.blamed(), begin_of(session, 2)], [promise, blamed, (blamed, promise)])

    def test_the_promise_is_the_least_price_or_the_sum_of_all(self):
        for number, many in ((10, 10), (11, 11), (14, 14)):
            session = self.ran(ROW, ("f", (number,)))
            self.assertEqual(len(open_below(web_of(ROW, session.book()), (), number)), many)
            self.assertEqual(session.seek(number), 4 if many <= 10 else many)
        session = self.ran(WIDE, ("top", ()))
        # Seven have a WEIGHT of 3, six one of 1; all read one let, top none.
        self.assertEqual([session.seek(13), session.left(), session.spent()], [7 * 3 + 6 + 1, 28, 0])

    def test_many_openings(self):
        for program, book in falling_runs(41, 40, 4, 40):
            session = Session(program)
            session.run(*book[-1][0])
            web = web_of(program, book)
            for index in range(0, len(book), 3):
                told = session.seek(index)
                u, promise = begin_of(session, index)
                self.assertEqual([told, session.spent() + session.left()], [promise, promise])
                self.assertEqual(session.blamed(), None if open_below(web, (), u) else u)
                if len(open_below(web, (), u)) <= 10:
                    self.assertEqual(told, least_price(web, (), u))


class QuestionTest(SessionTest):
    def test_by_halves(self):
        session = self.ran(ROW, ("f", (14,)))
        session.seek(14)
        # Below 6 are 6, and 7 are left if it is right; for 7 it is the other way round, and 6 is the least of both.
        self.assertEqual(session.question(), 6)
        session.answer(True)
        self.assertEqual([session.spent(), session.left()], [1, 3])
        session.undo()
        session.answer(False)
        self.assertEqual([session.spent(), session.left()], [1, 3])
        session = self.ran(WIDE, ("top", ()))
        session.seek(13)
        self.assertEqual(session.question(), 0)
        session.answer(True)
        self.assertEqual([session.question(), session.spent(), session.left()], [1, 3, 25])

    def test_a_wrong_answer_of_one_without_callees(self):
        session = self.ran(WIDE, ("top", ()))
        session.seek(13)
        session.answer(False)
        self.assertEqual([session.question(), session.blamed(), session.spent(), session.left()], [None, 0, 4, 0])
        self.error_of(NothingToAsk, session.answer, True)

    def test_any_value_for_an_answer(self):
        session = self.ran(SHOWN, ("both", (2,)))
        session.seek(4)
        for thing in [thing for thing in ANY if not isinstance(thing, bool)] + [session, "True", (True,), [False]]:
            self.wrong(session, "answer", 0, thing)
        session = Session(SHOWN)
        for thing in (0, 1, None):
            self.wrong(session, "answer", 0, thing)
        for truth in (True, False):
            self.error_of(NothingToAsk, session.answer, truth)

    def test_a_reading_is_spent_when_it_is_blamed(self):
        program = read_program("fun f ( n ) = let m = g ( n ) in let k = m in k ; fun g ( n ) = let m = n in m ;")
        session = self.ran(program, ("f", (1,)))
        self.assertEqual([session.seek(1), session.spent(), session.left()], [3, 0, 3])
        session.answer(True)
        self.assertEqual([session.blamed(), session.spent(), session.left()], [1, 3, 0])
        session.undo()
        session.answer(False)
        self.assertEqual([session.blamed(), session.spent(), session.left()], [0, 2, 0])
        self.assertEqual([session.seek(0), session.spent(), session.left(), session.blamed()], [1, 1, 0, 0])


class SearchesTest(SessionTest):
    def test_answered_by_a_meaning(self):
        found = 0
        runs = falling_runs(42, 40, 4, 40)
        for (program, book), (another, _) in zip(runs, runs[1:]):
            for at in range(4):
                meaning = with_function(program, another[at])
                session = self.ran(program, book[-1][0])
                for index in wrong_in(book, meaning, 1000)[::-4]:
                    blamed, _ = searched(self, session, index, by_meaning(session, meaning))
                    check_blamed(self, session, meaning, blamed)
                    self.assertTrue(blamed == index or blamed in below(web_of(program, book), index))
                    found += 1
        self.assertGreater(found, 100)

    def test_answered_anyhow(self):
        many = 0
        for seed, (program, book) in enumerate(falling_runs(43, 40, 4, 40)):
            session = self.ran(program, book[-1][0])
            for index in (len(book) - 1, len(book) - 1, len(book) // 2, len(book) - 2):
                if fact_of(session.facts(), *book[index][:2]) is not True:
                    many += searched(self, session, index, by_chance(seed + index))[1]
        self.assertGreater(many, 100)

    def test_sixty_entries(self):
        session = self.ran(ROW, ("f", (59,)))
        self.assertEqual(len(session.book()), 60)
        for wrong in (range(20, 60), range(1, 60), range(59, 60), range(60)):
            session = self.ran(ROW, ("f", (59,)))
            blamed, many = searched(self, session, 59, lambda x: x not in wrong)
            self.assertEqual([blamed, many <= 6], [wrong[0], True])

    def test_a_wide_search(self):
        session = self.ran(WIDE, ("top", ()))
        blamed, many = searched(self, session, 13, lambda x: x != 9)
        self.assertEqual(blamed, 9)
        self.assertGreater(session.spent(), 3 * 7)


class FactsTest(SessionTest):
    def test_they_stay_over_edits(self):
        session = self.ran(SHOWN, ("both", (2,)))
        searched(self, session, 4, by_meaning(session, MEANT))
        facts = session.facts()
        session.edit(read_function("fun one ( x ) = x + 2 ;"))
        self.assertEqual(session.facts(), facts)
        session.run("both", (2,))
        searched(self, session, 4, by_meaning(session, MEANT))
        self.assertEqual(session.facts()[:len(facts)], facts)

    def test_mending_whom_is_blamed_ends_with_right_results(self):
        runs = falling_runs(44, 40, 4, 30)
        most = 0
        for (program, book), (another, _) in zip(runs, runs[1:]):
            meaning = with_function(with_function(with_function(program, another[0]), another[2]), another[3])
            differ = len(changed_names(program, meaning))
            session = Session(program)
            rounds = 0
            asked = []
            while True:
                session.run(*book[-1][0])
                wrong = wrong_in(session.book(), meaning, 1000)
                if not wrong:
                    break
                blamed, _ = searched(self, session, wrong[-1], by_meaning(session, meaning))
                check_blamed(self, session, meaning, blamed)
                asked.append(session.facts())
                name = session.book()[blamed][0][0]
                self.assertIn(name, changed_names(session.program(), meaning))
                session.edit(function_of(meaning, name))
                rounds += 1
                self.assertLessEqual(rounds, differ)
            most = max(most, rounds)
            self.assertEqual(wrong_in(session.book(), meaning, 1000), ())
            # All FACTS are true, none is told twice, and they only grew.
            for earlier, later in zip(asked, asked[1:]):
                self.assertEqual(later[:len(earlier)], earlier)
            calls = [repr(fact[:2]) for fact in session.facts()]
            self.assertEqual(len(set(calls)), len(calls))
        self.assertEqual(most, 3)

    def test_what_is_known_makes_a_search_cheaper(self):
        session = self.ran(ROW, ("f", (10,)))
        self.assertEqual(session.seek(10), 4)
        for _ in range(2):
            session.answer(True)
        known = known_right(session.facts(), session.book())
        self.assertEqual(len(known), 2)
        web = web_of(ROW, session.book())
        self.assertEqual(session.seek(10), plain_promise(web, known, 10))
        self.assertLess(session.left(), 4)


class TwinTest(SessionTest):
    def test_each_goes_its_own_way(self):
        session = self.ran(SHOWN, ("both", (2,)))
        session.seek(4)
        shot = snapshot(session)
        twin = session.twin()
        self.assertEqual(snapshot(twin), shot)
        twin.answer(False)
        self.assertEqual(snapshot(session), shot)
        session.undo()
        session.undo()
        self.error_of(Nothing, session.undo)
        twin.undo()
        self.assertEqual(snapshot(twin), shot)
        twin.undo()
        twin.undo()
        self.error_of(Nothing, twin.undo)
