"""[18], with the definitions in [2] (BOOK, ENTRY, ROOT, the WEB of a BOOK, WEIGHT), and the guarantee [5]."""

import itertools
import unittest

from askorhold.bodies import worked_out
from askorhold.books import book_of, index_of, is_book, is_entry, notes_of, part_of, taken_by, web_of
from askorhold.errors import Endless, TooMany
from askorhold.forms import are_alike_calls, is_call, weight
from askorhold.reader import read_program
from askorhold.runs import run
from askorhold.webs import below, is_web
from programs import DOWN, FAULTS, FIB, KINDS, RUNS, SHARED
from things import ANY, spoiled

ONE, TRUE = ("is", (1,)), ("is", (True,))


def names_of(book):
    return [call[0] for call, _, _ in book]


def plain_book(program, call):
    """The BOOK of a CALL as the definition has it: whenever a CALL is needed, that one first."""
    notes = []

    def places(calls):
        return [[repr(noted) for noted, _ in notes].index(repr(wanted)) for wanted in calls]

    def know(wanted):
        while True:
            word, told, callees = worked_out(program, wanted, tuple(notes))
            if word == "result":
                notes.append((wanted, told))
                entries.append((wanted, told, tuple(sorted(places(callees)))))
                return
            know(told)

    entries = []
    know(call)
    return tuple(entries)


def is_plain_book(program, thing):
    """A BOOK is the one of the CALL of its last ENTRY, to the letter."""
    if not isinstance(thing, tuple) or not thing or not isinstance(thing[-1], tuple) or not thing[-1]:
        return False
    return is_call(thing[-1][0]) and repr(thing) == repr(plain_book(program, thing[-1][0]))


def moved(book, order):
    """The ENTRIES in another order, with the callees renamed."""
    names = {old: new for new, old in enumerate(order)}
    entries = [book[old] for old in order]
    return tuple((call, result, tuple(sorted(names[callee] for callee in callees))) for call, result, callees in entries)


class BookOfTest(unittest.TestCase):
    def test_each_is_as_the_definition_has_it(self):
        for program, call in RUNS:
            book = book_of(program, call, 60)
            self.assertEqual(repr(book), repr(plain_book(program, call)))
            self.assertEqual(repr(notes_of(book)), repr(run(program, call, 60)))
            self.assertIsInstance(book, tuple)

    def test_shared_callees(self):
        book = book_of(SHARED, ("top", ()), 6)
        self.assertEqual(names_of(book), ["e", "c", "d", "a", "b", "top"])
        self.assertEqual([callees for _, _, callees in book], [(), (0,), (), (1, 2), (2,), (1, 3, 4)])
        self.assertEqual(book[5], (("top", ()), (5, 2, 3), (1, 3, 4)))

    def test_calls_that_are_equal_but_not_alike(self):
        book = book_of(KINDS, ("both", ()), 5)
        wanted = (
            (ONE, (1,), ()), (TRUE, 1, ()), (("is", (0,)), (0,), ()), (("is", (False,)), 0, ()),
            (("both", ()), ((1,), 1, (0,), 0, (1,)), (0, 1, 2, 3)),
        )
        self.assertEqual(repr(book), repr(wanted))
        book = book_of(KINDS, ("pair", ()), 3)
        self.assertEqual(repr(book), repr(((("same", (True,)), True, ()), (("same", (1,)), 1, ()), (("pair", ()), (True, 1), (0, 1)))))

    def test_a_callee_is_there_once_however_often_it_is_taken(self):
        program = read_program("fun f ( ) = [ g ( 1 ) , g ( 2 ) , g ( 1 ) , g ( g ( 1 ) ) ] ; fun g ( x ) = x ;")
        self.assertEqual([callees for _, _, callees in book_of(program, ("f", ()), 3)], [(), (), (0, 1)])

    def test_what_is_not_evaluated_is_no_callee(self):
        program = read_program("fun f ( x ) = if x then g ( 1 ) else true or g ( 2 ) ; fun g ( x ) = x ;")
        self.assertEqual(book_of(program, ("f", (False,)), 60), ((("f", (False,)), True, ()),))
        self.assertEqual(book_of(program, ("f", (True,)), 60), ((("g", (1,)), 1, ()), (("f", (True,)), 1, (0,))))

    def test_faults(self):
        for n, name, word in ((0, "zero", "zero"), (1, "kind", "kind"), (2, "empty", "empty"), (3, "great", "great")):
            fault = ("fault", word)
            self.assertEqual(book_of(FAULTS, ("all", (n,)), 2), (((name, ()), fault, ()), (("all", (n,)), fault, (0,))))
        count = ("fault", "count")
        self.assertEqual(book_of(FAULTS, ("two", ()), 2), ((("none", ((),)), count, ()), (("two", ()), count, (0,))))
        self.assertEqual(book_of(FAULTS, ("two", (1,)), 1), ((("two", (1,)), count, ()),))

    def test_just_as_many_as_the_calls_and_one_less(self):
        for program, call in RUNS:
            book = book_of(program, call, 60)
            self.assertEqual(book_of(program, call, len(book)), book)
            if len(book) > 1:
                with self.assertRaises(TooMany) as caught:
                    book_of(program, call, len(book) - 1)
                self.assertEqual(caught.exception.most, len(book) - 1)

    def test_sixty_entries(self):
        book = book_of(FIB, ("fib", (59,)), 60)
        self.assertEqual(len(book), 60)
        self.assertTrue(is_book(FIB, book))
        with self.assertRaises(TooMany) as caught:
            book_of(FIB, ("fib", (60,)), 60)
        self.assertEqual(caught.exception.most, 60)

    def test_endless(self):
        for value in (1, True, (0, False)):
            with self.assertRaises(Endless) as caught:
                book_of(DOWN, ("ever", (value,)), 60)
            self.assertEqual(repr(caught.exception.call), repr(("ever", (value,))))


class PartsTest(unittest.TestCase):
    def test_notes_of(self):
        for program, call in RUNS:
            book = book_of(program, call, 60)
            self.assertEqual(repr(notes_of(book)), repr(tuple((noted, result) for noted, result, _ in book)))

    def test_index_of(self):
        for program, call in RUNS:
            book = book_of(program, call, 60)
            for index, (noted, _, _) in enumerate(book):
                self.assertEqual(index_of(book, noted), index)
        book = book_of(KINDS, ("both", ()), 60)
        self.assertEqual([index_of(book, ("is", (value,))) for value in (1, True, 0, False, 2, (1,))], [0, 1, 2, 3, None, None])
        book = book_of(FIB, ("fib", (3,)), 60)
        self.assertEqual(index_of(book, ("fib", (1,))), 0)
        for call in (("fib", (True,)), ("fib", (False,)), ("fib", ()), ("fib", (1, 1)), ("fab", (1,)), ("fib", (4,))):
            self.assertIsNone(index_of(book, call))

    def test_taken_by_is_in_the_order_of_taking(self):
        book = book_of(FIB, ("fib", (4,)), 60)
        self.assertEqual([taken_by(FIB, book, index) for index in range(5)], [(), (), (0, 1), (2, 0), (3, 2)])
        book = book_of(SHARED, ("top", ()), 60)
        self.assertEqual([taken_by(SHARED, book, index) for index in range(6)], [(), (0,), (), (1, 2), (2,), (3, 4, 1)])
        book = book_of(KINDS, ("both", ()), 60)
        self.assertEqual(taken_by(KINDS, book, 4), (0, 1, 2, 3))
        for program, call in RUNS:
            book = book_of(program, call, 60)
            for index, entry in enumerate(book):
                taken = taken_by(program, book, index)
                self.assertIsInstance(taken, tuple)
                self.assertEqual(tuple(sorted(taken)), entry[2])
                _, _, callees = worked_out(program, entry[0], notes_of(book))
                self.assertEqual(repr(tuple(book[at][0] for at in taken)), repr(callees))

    def test_web_of(self):
        web = web_of(FIB, book_of(FIB, ("fib", (3,)), 60))
        self.assertEqual(web, (((), 1, 1), ((), 1, 1), ((0, 1), 1, 1), ((0, 2), 1, 1)))
        self.assertEqual([price for _, price, _ in web_of(DOWN, book_of(DOWN, ("down", (4,)), 60))], [1, 2, 3, 4, 5])
        self.assertEqual(web_of(KINDS, book_of(KINDS, ("both", ()), 60))[4], ((0, 1, 2, 3), 9, 0))
        for program, call in RUNS:
            book = book_of(program, call, 60)
            web = web_of(program, book)
            self.assertTrue(is_web(web))
            self.assertEqual([node[:2] for node in web], [(callees, weight(result)) for _, result, callees in book])

    def test_a_fault_has_the_price_1(self):
        for n in range(5):
            book = book_of(FAULTS, ("all", (n,)), 60)
            self.assertEqual([price for _, price, _ in web_of(FAULTS, book)], [1] * len(book))

    def test_readings(self):
        program = read_program(
            "fun f ( x ) = let a = let b = 1 in b in let c = let d = g ( a ) in d in c ; fun g ( x ) = h ( x , x ) ; "
            "fun h ( x ) = let a = x in let b = a in let c = b in c ;"
        )
        # h is called with one value too many: its RESULT is a FAULT, its reading that of the E that it has.
        self.assertEqual(names_of(book_of(program, ("f", (1,)), 60)), ["h", "g", "f"])
        self.assertEqual([reading for _, _, reading in web_of(program, book_of(program, ("f", (1,)), 60))], [3, 0, 3])
        self.assertEqual(web_of(program, book_of(program, ("h", (1,)), 60)), (((), 1, 3),))

    def test_a_call_of_no_function_has_the_reading_0(self):
        self.assertEqual(web_of(FAULTS, book_of(FAULTS, ("two", ()), 60)), (((), 1, 0), ((0,), 1, 0)))
        self.assertEqual(web_of(FIB, book_of(FIB, ("fab", (1,)), 60)), (((), 1, 0),))

    def test_part_of(self):
        book = book_of(SHARED, ("top", ()), 60)
        self.assertEqual(part_of(book, 4), ((("d", ()), 2, ()), (("b", ()), 2, (0,))))
        self.assertEqual(part_of(book, 2), ((("d", ()), 2, ()),))
        self.assertEqual(part_of(book, 5), book)
        self.assertEqual(part_of(book, 1), book[:2])
        self.assertEqual(part_of(book, 3), book[:4])

    def test_part_of_has_the_entries_of_that_call(self):
        for program, call in RUNS:
            book = book_of(program, call, 60)
            for index in range(len(book)):
                part = part_of(book, index)
                self.assertEqual(part[-1][0], book[index][0])
                kept = below(web_of(program, book), index) + (index,)
                self.assertEqual(notes_of(part), tuple(notes_of(book)[at] for at in kept))
                other = book_of(program, book[index][0], 60)
                self.assertEqual(sorted(map(repr, notes_of(part))), sorted(map(repr, notes_of(other))))
                for noted, _, callees in part:
                    there = other[index_of(other, noted)][2]
                    self.assertEqual({repr(part[at][0]) for at in callees}, {repr(other[at][0]) for at in there})

    def test_part_of_may_be_no_book(self):
        program = read_program("fun f ( ) = [ g ( ) , h ( ) ] ; fun g ( ) = i ( 1 ) ; fun h ( ) = [ i ( 2 ) , i ( 1 ) ] ; fun i ( x ) = x ;")
        book = book_of(program, ("f", ()), 60)
        part = part_of(book, index_of(book, ("h", ())))
        self.assertEqual(part, ((("i", (1,)), 1, ()), (("i", (2,)), 2, ()), (("h", ()), (2, 1), (0, 1))))
        self.assertIs(is_book(program, part), False)


class IsEntryTest(unittest.TestCase):
    def test_each_entry_over_those_ahead(self):
        for program, call in RUNS:
            book = book_of(program, call, 60)
            notes = notes_of(book)
            for at, entry in enumerate(book):
                self.assertIs(is_entry(program, notes[:at], entry), True)
                # What it does not take may stand there, too, but not itself.
                self.assertIs(is_entry(program, notes[:at] + ((("other", ()), 1),), entry), True)
                self.assertIs(is_entry(program, notes[:at + 1], entry), False)

    def test_a_callee_that_is_not_known(self):
        book = book_of(FIB, ("fib", (3,)), 60)
        self.assertIs(is_entry(FIB, notes_of(book)[:1], book[2]), False)
        self.assertIs(is_entry(FIB, (), book[3]), False)
        self.assertIs(is_entry(FIB, (), (("fib", (2,)), 1, ())), False)

    def test_places_are_those_in_the_notes(self):
        notes = ((("fib", (0,)), 0), (("x", ()), 7), (("fib", (1,)), 1))
        self.assertIs(is_entry(FIB, notes, (("fib", (2,)), 1, (0, 2))), True)
        for callees in ((0, 1), (1, 2), (2, 0), (0,), (), (0, 1, 2), [0, 2], (False, 2), (0, 2, 3)):
            self.assertIs(is_entry(FIB, notes, (("fib", (2,)), 1, callees)), False)

    def test_the_result_is_that_over_the_notes(self):
        notes = ((("fib", (1,)), 10), (("fib", (0,)), 5))
        self.assertIs(is_entry(FIB, notes, (("fib", (2,)), 15, (0, 1))), True)
        self.assertIs(is_entry(FIB, notes, (("fib", (2,)), 1, (0, 1))), False)
        notes = ((("fib", (1,)), ("fault", "zero")), (("fib", (0,)), 5))
        self.assertIs(is_entry(FIB, notes, (("fib", (2,)), ("fault", "zero"), (0,))), True)
        self.assertIs(is_entry(FIB, notes, (("fib", (2,)), ("fault", "kind"), (0,))), False)

    def test_alike_not_only_equal(self):
        self.assertIs(is_entry(FIB, (), (("fib", (1,)), 1, ())), True)
        self.assertIs(is_entry(FIB, (), (("fib", (1,)), True, ())), False)
        self.assertIs(is_entry(FIB, (), (("fib", (True,)), 1, ())), False)
        self.assertIs(is_entry(KINDS, (), (TRUE, 1, ())), True)
        self.assertIs(is_entry(KINDS, (), (TRUE, True, ())), False)
        self.assertIs(is_entry(KINDS, ((ONE, (1,)),), (TRUE, 1, ())), True)
        self.assertIs(is_entry(KINDS, ((ONE, (1,)),), (ONE, (1,), ())), False)
        self.assertIs(is_entry(KINDS, (), (ONE, (1,), ())), True)
        self.assertIs(is_entry(KINDS, (), (ONE, (True,), ())), False)

    def test_results_that_are_none(self):
        for value in (True, False, (), (True, ()), 1):
            call = ("same", (value,))
            self.assertIs(is_entry(KINDS, (), (call, value, ())), True)
            for result in ("true", "false", "1", "list of 0", ("true", ()), ("true", "list of 0"), None, [], ("list of 2", "true", ())):
                self.assertIs(is_entry(KINDS, (), (call, result, ())), False)

    def test_entries_with_one_part_otherwise(self):
        for program, call in RUNS:
            book = book_of(program, call, 60)
            notes = notes_of(book)[:-1]
            for thing in spoiled(book[-1]):
                wanted = repr(thing) == repr(book[-1]) or self.is_plain_entry(program, notes, thing)
                self.assertIs(is_entry(program, notes, thing), wanted, thing)

    def is_plain_entry(self, program, notes, thing):
        if not isinstance(thing, tuple) or len(thing) != 3 or not is_call(thing[0]):
            return False
        if any(are_alike_calls(thing[0], noted) for noted, _ in notes):
            return False
        word, told, taken = worked_out(program, thing[0], notes)
        places = sorted([repr(noted) for noted, _ in notes].index(repr(other)) for other in taken)
        return word == "result" and repr((thing[0], told, tuple(places))) == repr(thing)

    def test_any_value(self):
        for thing in ANY:
            for program in (FIB, KINDS):
                self.assertIs(is_entry(program, (), thing), False)
                self.assertIs(is_entry(program, (), (("fib", (1,)), 1, thing)), thing == () and isinstance(thing, tuple) and program == FIB)
                self.assertIs(is_entry(program, (), (thing, 1, ())), False)
                self.assertIs(is_entry(program, (), (("fib", thing), 1, ())), False)
                self.assertIs(is_entry(FIB, (), (("fib", (1,)), thing, ())), repr(thing) == "1")


class IsBookTest(unittest.TestCase):
    def test_books_of_runs(self):
        for program, call in RUNS:
            self.assertIs(is_book(program, book_of(program, call, 60)), True)

    def test_parts_of_books(self):
        for program, call in RUNS:
            book = book_of(program, call, 60)
            for begin, end in itertools.combinations(range(len(book) + 1), 2):
                thing = book[begin:end]
                self.assertIs(is_book(program, thing), is_plain_book(program, thing), thing)
            self.assertIs(is_book(program, ()), False)

    def test_books_of_other_programs(self):
        book = book_of(FIB, ("fib", (3,)), 60)
        self.assertIs(is_book(SHARED, book), False)
        other = read_program("fun fib ( n ) = if n < 2 then n else fib ( n - 1 ) + fib ( n - 2 ) ;")
        self.assertIs(is_book(other, book), True)
        other = read_program("fun fib ( n ) = if n < 2 then n else fib ( n - 2 ) + fib ( n - 1 ) ;")
        book = book_of(FIB, ("fib", (4,)), 60)
        self.assertIs(is_book(other, book), False)
        self.assertIs(is_book(other, moved(book, (1, 0, 2, 3, 4))), True)

    def test_an_entry_out_or_twice_or_moved(self):
        for program, call in RUNS:
            book = book_of(program, call, 60)
            for at, entry in enumerate(book):
                things = [book[:at] + book[at + 1:], book[:at] + (entry,) + book[at:], book + (entry,), (entry,) + book]
                for to in range(len(book)):
                    rest = book[:at] + book[at + 1:]
                    things.append(rest[:to] + (entry,) + rest[to:])
                for thing in things:
                    self.assertIs(is_book(program, thing), is_plain_book(program, thing), thing)

    def test_all_orders_with_the_callees_renamed(self):
        for program, call in ((SHARED, ("top", ())), (FIB, ("fib", (4,))), (KINDS, ("both", ()))):
            book = book_of(program, call, 60)
            for order in itertools.permutations(range(len(book))):
                self.assertIs(is_book(program, moved(book, order)), order == tuple(range(len(book))))

    def test_an_entry_that_is_not_below_the_last_one(self):
        book = book_of(SHARED, ("top", ()), 60)
        other = (("x", ()), ("fault", "count"), ())
        self.assertIs(is_entry(SHARED, (), other), True)
        self.assertIs(is_book(SHARED, (other,)), True)
        self.assertIs(is_book(SHARED, (other,) + moved(book, range(6))), False)
        shifted = tuple((call, result, tuple(callee + 1 for callee in callees)) for call, result, callees in book)
        self.assertIs(is_book(SHARED, (other,) + shifted), False)
        self.assertIs(is_book(SHARED, book[:5]), False)
        self.assertIs(is_book(SHARED, book + (other,)), False)

    def test_an_entry_of_another_run(self):
        one, other = book_of(FIB, ("fib", (2,)), 60), book_of(FIB, ("fib", (5,)), 60)
        for at in range(3):
            for entry in other:
                thing = one[:at] + (entry,) + one[at + 1:]
                self.assertIs(is_book(FIB, thing), is_plain_book(FIB, thing), thing)

    def test_books_with_one_part_otherwise(self):
        for program, call in RUNS:
            book = book_of(program, call, 60)
            for thing in spoiled(book):
                self.assertIs(is_book(program, thing), is_plain_book(program, thing), thing)

    def test_any_value(self):
        book = book_of(FIB, ("fib", (2,)), 60)
        for thing in ANY:
            self.assertIs(is_book(FIB, thing), False)
            self.assertIs(is_book(FIB, (thing,)), False)
            self.assertIs(is_book(FIB, book[:2] + (thing,)), False)
            self.assertIs(is_book(FIB, (thing,) + book[1:]), False)

    def test_a_book_beyond_the_bounds(self):
        book = book_of(FIB, ("fib", (299,)), 300)
        self.assertIs(is_book(FIB, book), True)
        self.assertIs(is_book(FIB, book[:-2] + book[-1:]), False)
