"""The guarantees [1] and [5] to [10] over the whole program."""

import random
import unittest

from askorhold.blame import is_blame_shown, is_to_blame
from askorhold.books import book_of, is_book, web_of
from askorhold.booktexts import read_book, show_book, show_call, show_result
from askorhold.desk import Desk
from askorhold.errors import AskError, Cannot
from askorhold.facts import fact_of
from askorhold.holder import Holder
from askorhold.least import least_price
from askorhold.meanings import right_result, wrong_in
from askorhold.orders import is_order
from askorhold.plans import followed, is_plan, price_of
from askorhold.rooms import closed_lot, least_room
from askorhold.runs import nested_result, result_of
from askorhold.session import Session
from askorhold.shower import show_function, show_program
from askorhold.skeletons import skeleton_of, web_in
from askorhold.trees import changed_names, function_of, with_function
from machines import shown_by, state_of
from programs import RUNS, falling_runs
from searches import by_meaning, check_blamed, searched


class NumbersTest(unittest.TestCase):
    """[7]: one number."""

    def grants(self, program, skeleton, room, index):
        try:
            Holder(program, skeleton, room).wish(index)
            return True
        except Cannot as error:
            self.assertEqual(error.deed, ("wish", index))
            return False

    def test_on_webs_of_books(self):
        cases = [(program, book_of(program, call, 60)) for program, call in RUNS] + falling_runs(60, 30, 3, 11)
        for program, book in [(program, book) for program, book in cases if len(book) < 12]:
            web, skeleton = web_of(program, book), skeleton_of(program, book)
            for index in range(len(book)):
                number = least_price(web, (), index)
                session = Session(program)
                session.run(*book[-1][0])
                self.assertEqual(least_room(web, (), index), number)
                self.assertEqual(session.seek(index), number)
                self.assertTrue(self.grants(program, skeleton, number, index))
                for room in {0, number - 1} - {-1, number}:
                    self.assertFalse(self.grants(program, skeleton, room, index))
                    self.assertIsNotNone(closed_lot(web, (), index, room))


class Life:
    """A desk that is led by chance; what it knows is answered by a MEANING."""

    def __init__(self, seed, program, book, meaning, room):
        self.chance, self.program, self.call, self.meaning, self.room = random.Random(seed), program, book[-1][0], meaning, room
        self.desk = Desk(show_program(program))
        self.desk.execute("run " + show_call(self.call))
        self.desk.execute(f"open {room}")

    def line(self):
        """A line that may do something, or not."""
        session, holder = self.desk.session(), self.desk.holder()
        kind = self.chance.choice(("deed", "deed", "deed", "deed", "deed", "wish", "know", "answer", "answer", "seek", "edit", "rewind"))
        index = self.chance.randrange(len(holder.skeleton()))
        if kind == "deed":
            return f"{self.chance.choice(('put', 'put', 'put', 'take', 'throw'))} {index}"
        if kind == "know":
            # Only what is right by the MEANING comes to be known.
            return f"know {index}" if self.is_right(holder, index) else f"show {index}"
        if kind == "answer":
            x = session.question()
            return "question" if x is None else "right" if by_meaning(session, self.meaning)(x) else "wrong"
        if kind == "seek":
            wrong = wrong_in(session.book(), self.meaning, 1000)
            return f"seek {self.chance.choice(wrong)}" if wrong else "spent"
        if kind == "edit":
            name = session.book()[session.blamed()][0][0] if session.blamed() is not None else self.chance.choice("fghk")
            source = self.meaning if session.blamed() is not None else self.chance.choice((self.program, self.meaning))
            return show_function(function_of(source, name)) if self.chance.random() < 0.4 else "held"
        return f"{kind} {index if kind == 'wish' else self.chance.randrange(3)}"

    def is_right(self, holder, index):
        call = holder.skeleton()[index][0]
        return repr(result_of(holder.program(), call, 1000)) == repr(right_result(self.meaning, call, 1000))

    def turn(self):
        """Do one line; an edit is run at once, so that there is a BOOK again. Return what was done, None if it raised."""
        line = self.line()
        try:
            self.desk.execute(line)
        except AskError:
            return None
        if line.startswith("fun"):
            self.desk.execute("run " + show_call(self.call))
        return line.split()[0]


class LivesTest(unittest.TestCase):
    def lives(self, seed, many, most):
        runs = falling_runs(seed, many, 5, most)
        for at, ((program, book), (another, _)) in enumerate(zip(runs, runs[1:])):
            meaning = with_function(with_function(program, another[at % 4]), another[(at + 1) % 4])
            web = web_of(program, book)
            for room in {max(node[1] + node[2] for node in web) + 1, 12, 70}:
                yield Life(seed + at, program, book, meaning, room)

    def test_at_every_moment(self):
        done = {}
        for life in self.lives(70, 22, 18):
            for _ in range(30):
                word = life.turn()
                done[word] = done.get(word, 0) + 1
                self.check_machine(life, done)
        for word in (None, "put", "take", "throw", "wish", "know", "right", "wrong", "seek", "fun", "rewind", "blamed", "out of room"):
            self.assertGreater(done.get(word, 0), 10, word)

    def check_machine(self, life, done):
        holder = life.desk.holder()
        web, known = web_in(holder.skeleton()), holder.known()
        self.assertLessEqual(holder.size(), holder.room())
        self.assertTrue(is_order(web, known, holder.room(), holder.held(), holder.order()))
        wrong = tuple(index for index in range(len(web)) if not life.is_right(holder, index))
        # After an edit what was known to be right may be made of wrong ones; then it tells nothing of blame.
        is_all_right = not set(wrong) & set(known)
        for index, result in enumerate(shown_by(holder)):
            if result is None:
                continue
            # [9]: what is shown is the RESULT of the plain run.
            call = holder.skeleton()[index][0]
            self.assertEqual(repr(result), repr(result_of(holder.program(), call, 1000)))
            if index in holder.held() + known:
                continue
            # [1], [8]: what is shown is found, if it is wrong, with questions of a price of at most the room.
            plan = holder.plan(index)
            self.assertTrue(is_plan(web, known, index, plan))
            self.assertLessEqual(price_of(web, plan), holder.room())
            if index in wrong and is_all_right:
                blamed, asked = followed(plan, wrong)
                self.assertTrue(is_to_blame(holder.program(), life.meaning, holder.skeleton()[blamed][0], 1000))
                self.assertLessEqual(sum(web[x][1] for x in asked) + web[blamed][2], holder.room())
                done["blamed"] = done.get("blamed", 0) + 1
        for index in [index for index in range(0, len(web), 3) if index not in known]:
            if len(web) < 12 and least_price(web, known, index) > holder.room():
                # It is never shown, whatever is done: neither now nor by a wish.
                self.assertIsNone(shown_by(holder)[index])
                self.assertRaises(Cannot, holder.wish, index)
                done["out of room"] = done.get("out of room", 0) + 1

    def test_a_wish_holds_what_was_held(self):
        many = 0
        for life in self.lives(71, 12, 14):
            for _ in range(15):
                life.turn()
                holder = life.desk.holder()
                before = repr((state_of(holder), shown_by(holder)))
                for index in range(len(holder.skeleton())):
                    try:
                        result = holder.wish(index)
                        many += 1
                    except AskError:
                        continue
                    finally:
                        self.assertEqual(repr((state_of(holder), shown_by(holder))), before)
                    self.assertEqual(repr(result), repr(result_of(holder.program(), holder.skeleton()[index][0], 1000)))
        self.assertGreater(many, 300)


class RunsTest(unittest.TestCase):
    """[5], [6] and [9] over programs of chance."""

    def test_books_are_judged_without_runs(self):
        for program, book in falling_runs(80, 60, 2, 60):
            self.assertIs(is_book(program, book), True)
            self.assertEqual(repr(read_book(show_book(book))), repr(book))
            for call, result, _ in book[::5]:
                plain = nested_result(program, call, 1000)
                self.assertTrue(plain is None or repr(plain) == repr(result))

    def test_blame_is_shown(self):
        runs = falling_runs(81, 60, 3, 40)
        for (program, book), (another, _) in zip(runs, runs[1:]):
            for at in range(4):
                self.assertIs(is_blame_shown(program, with_function(program, another[at]), book, 1000), True)


class SessionsTest(unittest.TestCase):
    """[10]: whole sessions, whatever is edited."""

    def test_answered_by_a_meaning_with_any_edits(self):
        runs = falling_runs(90, 24, 4, 30)
        many = 0
        for seed, ((program, book), (another, _)) in enumerate(zip(runs, runs[1:])):
            chance = random.Random(seed)
            meaning = with_function(with_function(program, another[1]), another[2])
            session = Session(program)
            for _ in range(6):
                session.run(*book[-1][0])
                wrong = wrong_in(session.book(), meaning, 1000)
                for index in chance.sample(wrong, min(2, len(wrong))):
                    promise = session.seek(index)
                    session.undo()
                    blamed, _ = searched(self, session, index, by_meaning(session, meaning))
                    check_blamed(self, session, meaning, blamed)
                    self.assertLessEqual(session.spent(), promise)
                    many += 1
                for call, result, is_right in session.facts():
                    self.assertIs(repr(right_result(meaning, call, 1000)) == repr(result), is_right)
                session.edit(chance.choice(program + another + meaning))
        self.assertGreater(many, 60)

    def test_at_the_desk(self):
        runs = falling_runs(91, 20, 4, 30)
        for (program, book), (another, _) in zip(runs, runs[1:]):
            meaning = with_function(with_function(program, another[0]), another[3])
            desk, mended = Desk(show_program(program)), 0
            while True:
                desk.execute("run " + show_call(book[-1][0]))
                wrong = wrong_in(desk.session().book(), meaning, 1000)
                if not wrong:
                    break
                promise = int(desk.execute(f"seek {wrong[-1]}").split()[1])
                told = desk.execute("question")
                while told.startswith("ask"):
                    session = desk.session()
                    x = int(told.split()[1])
                    self.assertEqual(told, f"ask {x} : {show_call(session.book()[x][0])} = {show_result(session.book()[x][1])}")
                    self.assertIsNone(fact_of(session.facts(), *session.book()[x][:2]))
                    told = desk.execute("right" if by_meaning(session, meaning)(x) else "wrong")
                spent, left = (int(number) for number in desk.execute("spent").split()[1::2])
                self.assertEqual([told.split()[0], left, spent <= promise], ["blamed", 0, True])
                blamed = int(told.split()[1])
                check_blamed(self, desk.session(), meaning, blamed)
                desk.execute(show_function(function_of(meaning, desk.session().book()[blamed][0][0])))
                mended += 1
            self.assertLessEqual(mended, len(changed_names(program, meaning)))
