"""[19] and [20], with the words and NoTree of [15], and the rule for [R] in [4]."""

import unittest

from askorhold.books import book_of, is_book
from askorhold.booktexts import read_book, read_call, read_result, show_book, show_call, show_result
from askorhold.errors import NoTree, TooMany, Wrong
from askorhold.forms import weight
from programs import FIB, KINDS, RUNS
from things import ANY, deep

RESULTS = (
    (0, "0"), (7, "7"), (-1, "-1"), (-120, "-120"), (10 ** 40 - 1, "9" * 40), (1 - 10 ** 40, "-" + "9" * 40), (True, "true"),
    (False, "false"), ((), "[ ]"), ((1,), "[ 1 ]"), ((1, 2, -3), "[ 1 , 2 , -3 ]"), (((),), "[ [ ] ]"),
    (((), ((),), True), "[ [ ] , [ [ ] ] , true ]"), ((1, True, 0, False), "[ 1 , true , 0 , false ]"),
    (((1, (2, 3)), 4), "[ [ 1 , [ 2 , 3 ] ] , 4 ]"), (deep(99, tuple), "[ " * 100 + "] " * 99 + "]"),
) + tuple((("fault", word), f"fault {word}") for word in ("kind", "zero", "empty", "great", "count"))
CALLS = (
    (("f", ()), "f ( )"), (("f", (1,)), "f ( 1 )"), (("f", (-2, (True, ()))), "f ( -2 , [ true , [ ] ] )"),
    (("fault", (0,)), "fault ( 0 )"), (("abcdefghijkl", ((), (), ())), "abcdefghijkl ( [ ] , [ ] , [ ] )"),
    (("f", (True,)), "f ( true )"), (("f", (deep(99, tuple),)), "f ( " + "[ " * 100 + "] " * 100 + ")"),
)


def spread(text, blank):
    return blank + blank.join(text.split()) + blank


def of_weight(many):
    return "[ " + " , ".join(["1"] * (many - 1)) + " ]"


class TextsTest(unittest.TestCase):
    def raises(self, error, field, wanted, read, text):
        with self.subTest(read=read.__name__, text=text[:100]):
            with self.assertRaises(error) as caught:
                read(text)
            self.assertIs(type(caught.exception), error)
            self.assertEqual(getattr(caught.exception, field), wanted)

    def place(self, read, text, wanted):
        self.raises(NoTree, "place", wanted, read, text)

    def same(self, one, other):
        self.assertEqual(repr(one), repr(other))


class ResultsTest(TextsTest):
    def test_shown(self):
        for result, text in RESULTS:
            self.assertEqual(show_result(result), text)

    def test_read_back(self):
        for result, text in RESULTS:
            self.same(read_result(text), result)
            for blank in (" ", "\n", "  ", "\n \n"):
                self.same(read_result(spread(text, blank)), result)

    def test_a_list_deeper_than_calls_of_python(self):
        self.assertEqual(show_result(deep(1500, tuple)), "[ " * 1501 + "] " * 1500 + "]")

    def test_bad_words(self):
        for text, wanted in (
            ("", 0), (" \n", 0), ("-", 0), ("- 2", 0), ("-0", 0), ("00", 0), ("07", 0), ("-07", 0), ("-00", 0), ("--1", 0),
            ("+1", 0), ("1.0", 0), ("1a", 0), ("True", 0), ("x", 0), (",", 0), ("]", 0), ("(", 0), ("( 1 )", 0), ("[]", 0),
            ("[ 1 , ]", 3), ("[ , ]", 1), ("[ 1 1 ]", 2), ("[ 1 , , 2 ]", 3), ("[ 1", 2), ("[", 1), ("[ 1 ,", 3), ("[ ] ]", 2),
            ("[ 1 ] 2", 3), ("1 2", 1), ("1 ,", 1), ("[ 1 )", 2), ("[ [ 1 ] ", 4), ("[ [ 1 ] , -0 ]", 5), ("[1]", 0),
            ("fault", 1), ("fault none", 1), ("fault fault", 1), ("fault great 1", 2), ("fault great zero", 2), ("Fault zero", 0),
            ("[ fault zero ]", 1), ("[ 1 , fault zero ]", 3), ("zero", 0), ("fault ( )", 1), ("1-", 0), ("1 -2", 1), ("f ( )", 0),
            ("fun", 0), ("[ true false ]", 2), ("[ false", 2), ("_", 0), ("1_0", 0), ("0x1", 0),
        ):
            self.place(read_result, text, wanted)

    def test_forty_and_forty_one_digits(self):
        self.assertEqual(read_result("9" * 40), 10 ** 40 - 1)
        self.assertEqual(read_result("[ -" + "1" + "0" * 39 + " ]"), (-(10 ** 39),))
        for word in ("1" + "0" * 40, "-1" + "0" * 40, "9" * 41, "9" * 2000):
            self.place(read_result, word, 0)
            self.place(read_result, f"[ 1 , {word} ]", 3)
            self.place(read_call, f"f ( {word} )", 2)

    def test_lists_within_lists(self):
        # A `[` may stand within 99 others, but not within 100.
        self.same(read_result("[ " * 100 + "] " * 100), deep(99, tuple))
        self.place(read_result, "[ " * 101 + "] " * 101, 100)
        self.place(read_result, "[ " * 100, 100)
        self.place(read_result, "[ " * 1000, 100)
        self.place(read_result, "[ " * 100 + "] , [", 103)
        self.place(read_result, "[ " * 100 + "] , [ [", 103)
        self.same(read_result("[ " * 99 + "[ ] , [ ] " + "] " * 99), deep_pair())
        self.place(read_result, "[ " * 99 + "[ ] , [ [ ] ] " + "] " * 99, 103)
        self.place(read_call, "f ( " + "[ " * 101, 102)
        self.place(read_call, "f ( 1 , " + "[ " * 101, 104)
        self.same(read_call("f ( " + "[ " * 100 + "] " * 100 + ", [ ] )"), ("f", (deep(99, tuple), ())))

    def test_too_heavy_lists(self):
        self.assertEqual(weight(read_result(of_weight(200))), 200)
        self.raises(TooMany, "most", 200, read_result, of_weight(201))
        self.raises(TooMany, "most", 200, read_result, of_weight(400))
        self.raises(TooMany, "most", 200, read_result, f"[ {of_weight(200)} ]")
        self.assertEqual(weight(read_result(f"[ {of_weight(199)} ]")), 200)
        self.raises(TooMany, "most", 200, read_call, f"f ( {of_weight(201)} )")
        self.raises(TooMany, "most", 200, read_call, f"f ( 1 , {of_weight(201)} )")
        # The values of a CALL are no LIST.
        self.assertEqual(len(read_call(f"f ( {of_weight(200)} , {of_weight(200)} , 1 )")[1]), 3)
        self.assertEqual(len(read_call("f ( " + " , ".join(["1"] * 300) + " )")[1]), 300)

    def test_a_bad_word_comes_ahead_of_a_weight(self):
        self.place(read_result, of_weight(201) + " 1", 401)
        self.place(read_result, of_weight(201)[:-2], 400)
        self.place(read_call, f"f ( {of_weight(201)} , -0 )", 404)

    def test_wrong(self):
        for read in (read_result, read_call, read_book):
            for thing in ANY:
                if not isinstance(thing, str):
                    self.raises_wrong(read, thing)
        self.place(read_result, "fun", 0)

    def raises_wrong(self, read, thing):
        with self.assertRaises(Wrong) as caught:
            read(thing)
        self.assertEqual(caught.exception.place, 0)


def deep_pair():
    thing = ((), ())
    for _ in range(98):
        thing = (thing,)
    return thing


class CallsTest(TextsTest):
    def test_shown_and_read_back(self):
        for call, text in CALLS:
            self.assertEqual(show_call(call), text)
            self.same(read_call(text), call)
            for blank in ("\n", "   ", " \n"):
                self.same(read_call(spread(text, blank)), call)

    def test_bad_words(self):
        for text, wanted in (
            ("", 0), ("f", 1), ("f (", 2), ("f ( ) )", 3), ("f ( 1", 3), ("f ( 1 ,", 4), ("f ( , )", 2),
            ("f ( 1 , )", 4), ("f ( 1 2 )", 3), ("f [ ]", 1), ("f()", 0), ("if ( )", 0), ("fun ( )", 0), ("true ( )", 0),
            ("first ( )", 0), ("F ( )", 0), ("a1 ( )", 0), ("abcdefghijklm ( )", 0), ("1 ( )", 0), ("( )", 0), ("f ( g ( ) )", 2),
            ("f ( fault zero )", 2), ("f ( x )", 2), ("f ( -0 )", 2), ("f ( 01 )", 2), ("f ( [ 1 ) )", 4), ("f ( ] )", 2),
            ("f ( [ ] ] )", 4), ("f ( ) f", 3), ("f ( ) = 1", 3), ("- ( )", 0), ("f f", 1), ("f ( - )", 2),
        ):
            self.place(read_call, text, wanted)


class BooksTest(TextsTest):
    ENTRIES = (
        ((("f", ()), 1, ()),), ((("f", ()), 1, ()), (("f", ()), ("fault", "zero"), (0,))),
        ((("f", (True,)), 1, ()), (("f", (1,)), True, ()), (("g", ((), (1, (-2,)))), (False, 0), (0, 1)), (("h", ()), (), (1,))),
        tuple((("a", (k,)), -k, tuple(range(k))) for k in range(15)),
    )

    def test_books_of_runs(self):
        for program, call in RUNS:
            book = book_of(program, call, 60)
            self.same(read_book(show_book(book)), book)
            self.assertTrue(is_book(program, read_book(show_book(book))))

    def test_entries_that_are_no_book(self):
        for entries in self.ENTRIES:
            self.same(read_book(show_book(entries)), entries)
            self.assertEqual(len(show_book(entries).split("\n")), len(entries))

    def test_shown(self):
        self.assertEqual(show_book(book_of(FIB, ("fib", (2,)), 60)), "0 : fib ( 1 ) = 1 <\n1 : fib ( 0 ) = 0 <\n2 : fib ( 2 ) = 1 < 0 1")
        self.assertEqual(
            show_book(book_of(KINDS, ("both", ()), 60)),
            "0 : is ( 1 ) = [ 1 ] <\n1 : is ( true ) = 1 <\n2 : is ( 0 ) = [ 0 ] <\n3 : is ( false ) = 0 <\n"
            "4 : both ( ) = [ [ 1 ] , 1 , [ 0 ] , 0 , [ 1 ] ] < 0 1 2 3",
        )
        self.assertEqual(show_book(self.ENTRIES[1]), "0 : f ( ) = 1 <\n1 : f ( ) = fault zero < 0")

    def test_lines_without_words_and_blanks_more(self):
        entries = self.ENTRIES[2]
        lines = show_book(entries).split("\n")
        for between in ("\n", "\n\n", "\n  \n \n", " \n "):
            for end in ("", "\n", " ", "\n \n"):
                self.same(read_book(end + between.join(lines) + end), entries)
                self.same(read_book(end + between.join(lines).replace(" ", "   ") + end), entries)

    def test_no_line_has_words(self):
        for text, wanted in (("", 1), ("  ", 1), ("\n", 2), ("\n\n", 3), (" \n  \n ", 3)):
            self.place(read_book, text, wanted)

    def test_bad_lines(self):
        for line in (
            "2 : f ( ) = 1 <", "0 : f ( ) = 1 <", "01 : f ( ) = 1 <", "-1 : f ( ) = 1 <", ": f ( ) = 1 <", "1 f ( ) = 1 <", "1 :",
            "1 : f ( ) = 1", "1 : f ( ) 1 <", "1 : f ( ) =  <", "1 : = 1 <", "1 : f = 1 <", "1 : f ( x ) = 1 <", "1 : f ( ) = x <",
            "1 : f ( ) = 1 < 1", "1 : f ( ) = 1 < 0 0", "1 : f ( ) = 1 < 00", "1 : f ( ) = 1 < -0", "1 : f ( ) = 1 < x",
            "1 : f ( ) = 1 < 0 ,", "1 : f ( ) = 1 < [ 0 ]", "1 : f ( ) = 1 < 0 <", "1 : f ( ) = fault <", "1 : f ( ) = fault none <",
            "1 : if ( ) = 1 <", "1: f ( ) = 1 <", "1 : f() = 1 <", "1 : f ( ) = 1<", "x", "1", "1 : f ( ) = -0 <", "1 : f ( ) = [ 1 <",
            "1 : f ( ) = 1 < 0 1 : f ( ) = 1 <", "1 : f ( fault zero ) = 1 <", "1 : f ( ) = " + "[ " * 101 + "] " * 101 + "<",
            "1 : f ( ) = 1 < 2", "true : f ( ) = 1 <", "1 : f ( ) = 1 < true", "1 : f ( ) = 1 > 0", "1 : f ( ) = 1 2 < 0",
            f"1 : f ( ) = {of_weight(201)} <", f"1 : f ( {of_weight(201)} ) = 1 <", "1 : f ( ) = " + "1" * 41 + " <", "1 : f (",
            "1 : f ( ) = 1 < " + "1" * 50, "1" * 50,
        ):
            self.place(read_book, f"0 : a ( ) = 1 <\n{line}", 1)
            self.place(read_book, f"\n0 : a ( ) = 1 <\n \n{line}\n2 : a ( ) = 1 <", 3)

    def test_the_first_bad_line_counts(self):
        self.place(read_book, "x\ny", 0)
        self.place(read_book, "\nx\ny", 1)
        self.place(read_book, "0 : f ( ) = 1 <\n0 : f ( ) = 1 <\nx", 1)
        self.place(read_book, "0 : f ( ) = 1 < 0", 0)
        self.place(read_book, "1 : f ( ) = 1 <", 0)

    def test_callees_are_a_lot_of_lesser_indexes(self):
        lines = "0 : f ( ) = 1 <\n1 : f ( ) = 1 <\n"
        for callees, is_right in (
            ("", True), ("0", True), ("1", True), ("0 1", True), ("1 0", False), ("2", False), ("0 2", False), ("0 0", False),
            ("1 1", False), ("0 1 2", False), ("0 01", False),
        ):
            text = f"{lines}2 : f ( ) = 1 < {callees}"
            if is_right:
                self.assertEqual(read_book(text)[2][2], tuple(int(word) for word in callees.split()))
            else:
                self.place(read_book, text, 2)

    def test_a_heavy_list_in_a_line(self):
        self.assertEqual(weight(read_book(f"0 : f ( ) = {of_weight(200)} <")[0][1]), 200)
        self.place(read_book, f"0 : f ( ) = {of_weight(201)} <", 0)
        self.place(read_book, f"0 : f ( ) = 1 <\n\n1 : f ( [ {of_weight(200)} ] ) = 1 <", 2)

    def test_strings_of_any_signs(self):
        for sign in map(chr, range(32, 127)):
            for text in (sign, sign + " 1", "1 " + sign, "0 : f ( ) = 1 < " + sign, "f ( " + sign):
                for read in (read_result, read_call, read_book):
                    try:
                        read(text)
                    except NoTree as error:
                        self.assertGreaterEqual(error.place, 0)
