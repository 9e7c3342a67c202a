"""[15]: reading, with the texts of [14] and the rule for [R] in [4]."""

import unittest

from askorhold.errors import NoTree, TooMany, Wrong
from askorhold.reader import read_function, read_program
from askorhold.shower import show_expression, show_function, show_program
from askorhold.trees import depth_of, is_function, is_program
from things import ANY

KEYWORDS = "fun let in if then else and or mod true false first rest size".split()
PROGRAMS = (
    "fun f ( ) = 1 ;",
    "fun f ( a ) = a ;\nfun g ( a , b ) = f ( a , b ) ;",
    "fun sum ( x ) = if size ( x ) == 0 then 0 else first ( x ) + sum ( rest ( x ) ) ;",
    "fun f ( a , b , c ) = [ a , [ ] , [ b , true ] , g ( ) , false ] ;\nfun z ( ) = 0 ;",
    "fun f ( a ) = let b = let a = 1 in a in a and ( b or ( let c = b in c ) ) ;",
    "fun f ( a ) = ( if a then 1 else 2 ) * ( ( a - 1 ) - ( 1 - a ) ) ;",
    "fun f ( a ) = if if a then a else true then let a = 2 in a else let b = 3 in b mod 2 ;",
    "fun f ( a ) = ( a < 1 ) < ( 1 <= a ) ;",
    "fun fault ( number ) = number / 9999999999999999999999999999999999999999 ;",
)


def spaced(text, blank):
    return blank + blank.join(text.split()) + blank


class ReaderTest(unittest.TestCase):
    def place(self, text, place, reads=(read_program, read_function)):
        for read in reads:
            with self.subTest(text=text, read=read.__name__):
                with self.assertRaises(NoTree) as caught:
                    read(text)
                self.assertEqual(caught.exception.place, place)

    def body_place(self, body, place):
        """The place counted from the first word of the E of a FUNCTION with the parameters a and b."""
        self.place("fun f ( a , b ) = " + body, 8 + place)

    def body(self, text):
        function = read_function(f"fun f ( a , b , c , d ) = {text} ;")
        self.assertTrue(is_function(function))
        self.assertEqual(read_program(f"fun f ( a , b , c , d ) = {text} ;"), (function,))
        return function[2]

    def same(self, one, other):
        with self.subTest(one=one, other=other):
            self.assertEqual(self.body(one), self.body(other))


class RightTextsTest(ReaderTest):
    def test_what_is_shown_is_read_again(self):
        for text in PROGRAMS:
            program = read_program(text)
            self.assertTrue(is_program(program))
            self.assertEqual(show_program(program), text)
            self.assertEqual(read_program(show_program(program)), program)
            for function in program:
                self.assertEqual(read_function(show_function(function)), function)

    def test_blanks_and_line_feeds(self):
        for text in PROGRAMS:
            for blank in (" ", "\n", "   ", "\n\n", " \n ", "\n \n"):
                self.assertEqual(read_program(spaced(text, blank)), read_program(text))
        self.assertEqual(read_function("\n fun  f\n\n(  )\n=  1 ;\n "), ("f", (), ("number", 1)))

    def test_each_kind(self):
        one, a, b = ("number", 1), ("name", "a"), ("name", "b")
        for text, expression in (
            ("1", one), ("0", ("number", 0)), ("true", ("truth", True)), ("false", ("truth", False)), ("a", a),
            ("a ( )", ("call", "a", ())), ("g ( a , 1 )", ("call", "g", (a, one))), ("[ ]", ("list", ())),
            ("[ a , [ 1 ] ]", ("list", (a, ("list", (one,))))), ("first ( a )", ("one", "first", a)),
            ("rest ( a )", ("one", "rest", a)), ("size ( a )", ("one", "size", a)), ("( a )", a), ("( ( ( 1 ) ) )", one),
            ("if a then b else 1", ("if", a, b, one)), ("let a = b in a", ("let", "a", b, a)),
            ("9" * 40, ("number", 10 ** 40 - 1)), ("let x = 1 in x", ("let", "x", one, ("name", "x"))),
        ):
            self.assertEqual(self.body(text), expression)

    def test_a_truth_is_no_number(self):
        self.assertIs(self.body("true")[1], True)
        self.assertIs(self.body("false")[1], False)
        self.assertNotIsInstance(self.body("1")[1], bool)

    def test_operators_of_one_level_stand_to_the_left(self):
        for level in (("or",), ("and",), ("+", "-"), ("*", "/", "mod")):
            for one in level:
                for other in level:
                    self.same(f"a {one} b {other} c", f"( a {one} b ) {other} c")
                    self.same(f"a {one} b {other} c {one} d", f"( ( a {one} b ) {other} c ) {one} d")
                    self.assertNotEqual(self.body(f"a {one} b {other} c"), self.body(f"a {one} ( b {other} c )"))

    def test_tighter_levels(self):
        levels = (("or",), ("and",), ("==", "<", "<="), ("+", "-"), ("*", "/", "mod"))
        for at, looser in enumerate(levels):
            for tighter in levels[at + 1:]:
                for one in looser:
                    for other in tighter:
                        self.same(f"a {one} b {other} c", f"a {one} ( b {other} c )")
                        self.same(f"a {other} b {one} c", f"( a {other} b ) {one} c")
                        self.same(f"a {other} b {one} c {other} d", f"( a {other} b ) {one} ( c {other} d )")

    def test_all_levels_at_once(self):
        self.same("a or b and c == d + 1 * 2", "a or ( b and ( c == ( d + ( 1 * 2 ) ) ) )")
        self.same("a * b + c < d and 1 or 2", "( ( ( ( a * b ) + c ) < d ) and 1 ) or 2")
        self.same("a + b * c - d < 1 - 2 * 3 - 4", "( ( a + ( b * c ) ) - d ) < ( ( 1 - ( 2 * 3 ) ) - 4 )")
        self.same("a < b and c <= d or a == b", "( ( a < b ) and ( c <= d ) ) or ( a == b )")
        self.same("a or b < c and d or 1 < 2", "( a or ( ( b < c ) and d ) ) or ( 1 < 2 )")

    def test_if_and_let_go_as_far_as_they_can(self):
        self.same("if a then b else c + 1", "if a then b else ( c + 1 )")
        self.same("let x = a in x + 1 or b", "let x = a in ( ( x + 1 ) or b )")
        self.same("if a then if b then 1 else 2 else 3", "if a then ( if b then 1 else 2 ) else 3")
        self.same("if a then let x = 1 in x + 1 else 3 * 2", "if a then ( let x = 1 in ( x + 1 ) ) else ( 3 * 2 )")
        self.same("let x = let y = 1 in y + 1 in x", "let x = ( let y = 1 in ( y + 1 ) ) in x")
        self.same("[ if a then b else c , 1 ]", "[ ( if a then b else c ) , 1 ]")
        self.same("let x = if a then b else c or d in x", "let x = ( if a then b else ( c or d ) ) in x")

    def test_needless_brackets(self):
        self.same("( ( a ) + ( ( b ) ) )", "a + b")
        self.same("g ( ( a ) , ( if ( a ) then ( b ) else ( c ) ) )", "g ( a , if a then b else c )")
        self.same("[ ( [ ] ) ]", "[ [ ] ]")
        self.same("size ( ( a ) )", "size ( a )")

    def test_fewer_brackets_than_shown(self):
        expression = self.body("a or b and c == d + 1 * 2")
        self.assertEqual(show_expression(expression), "a or ( b and ( c == ( d + ( 1 * 2 ) ) ) )")

    def test_a_name_may_be_a_function_s_and_a_parameter_s(self):
        self.assertEqual(read_program("fun f ( f ) = f ( f ) ;"), (("f", ("f",), ("call", "f", (("name", "f"),))),))


class BadWordsTest(ReaderTest):
    def test_what_lacks_something(self):
        for text in PROGRAMS[:1] + PROGRAMS[3:]:
            words = text.split("\n")[0].split()
            for many in range(len(words)):
                self.place(" ".join(words[:many]), many)
        self.place("", 0)
        self.place(" \n ", 0)
        self.place("fun f ( ) = 1 ; fun", 8, (read_program,))

    def test_each_word_left_out(self):
        words = "fun f ( a , b ) = g ( a ) ;".split()
        places = (0, 1, 2, 3, 4, 5, 6, 7, ("name", "a"), 9, ("call", "g", ()), 11, 12)
        for at, place in enumerate(places):
            text = " ".join(words[:at] + words[at + 1:])
            if isinstance(place, tuple):
                self.assertEqual(read_function(text)[2], place)
            else:
                self.place(text, place)

    def test_each_word_twice(self):
        words = "fun f ( a , b ) = if a then [ b ] else size ( a ) + 1 ;".split()
        for at, word in enumerate(words):
            # Doubled, these begin something more within; they stand below.
            if word not in ("if", "[", "("):
                reads = (read_program, read_function) if word != ";" else (read_program,)
                self.place(" ".join(words[:at + 1] + words[at:]), at + 1, reads)
        self.place("fun f ( a ) = if if a then 1 else 2 ;", 13)
        self.place("fun f ( a ) = [ [ a ] ;", 10)
        self.place("fun f ( ( a ) = a ;", 3)

    def test_words_exchanged_and_moved(self):
        self.place("fun f ) ( = 1 ;", 2)
        self.place("fun ( f ) = 1 ;", 1)
        self.place("f fun ( ) = 1 ;", 0)
        self.place("fun f ( ) 1 = ;", 4)
        self.body_place("if a else 1 then 2 ;", 2)
        self.body_place("let x in 1 = x ;", 2)
        self.body_place("= let x 1 in x ;", 0)
        self.body_place("let = x 1 in x ;", 1)
        self.body_place("a b + ;", 1)
        self.body_place("[ a b , ] ;", 2)
        self.body_place("size a ( ) ;", 1)

    def test_one_word_more(self):
        self.place("fun f ( ) = 1 ; ;", 7)
        self.place("fun f ( ) = 1 ; fun g ( ) = 1 ; 1", 14, (read_program,))
        self.place("fun f ( a , ) = 1 ;", 5)
        self.place("fun f ( , a ) = 1 ;", 3)
        self.place("fun f ( a b ) = 1 ;", 4)
        self.body_place("1 2 ;", 1)
        self.body_place("a 1 ;", 1)
        self.body_place("1 + + 2 ;", 2)
        self.body_place("1 + ;", 2)
        self.body_place("- 1 ;", 0)
        self.body_place("1 ( ) ;", 1)
        self.body_place("true ( ) ;", 1)
        self.body_place("[ a ] ( ) ;", 3)
        self.body_place("[ a , ] ;", 3)
        self.body_place("[ , a ] ;", 1)
        self.body_place("g ( a , ) ;", 4)
        self.body_place("g ( , ) ;", 2)
        self.body_place("( ) ;", 1)
        self.body_place("( a , b ) ;", 2)
        self.body_place("size ( ) ;", 2)
        self.body_place("size ( a , b ) ;", 3)
        self.body_place("( a ] ;", 2)
        self.body_place("[ a ) ;", 2)
        self.body_place("a ) ;", 1)
        self.body_place("1 ;\n) ", 2)

    def test_if_and_let_are_no_items(self):
        self.body_place("1 + if a then 1 else 2 ;", 2)
        self.body_place("a and let x = 1 in x ;", 2)
        self.body_place("if a then 1 else 2 then 3 ;", 6)
        self.body_place("if a then 1 ;", 4)
        self.body_place("let x = 1 ;", 4)

    def test_words_that_are_none(self):
        for word in (
            "A", "aB", "a1", "1a", "abcdefghijklm", "_", "-1", "+1", "1.0", "a,", "(a", "()", "'a'", ">", ">=", "!=", "=", "=>",
            "&", "f(", "#", "then", "in", "fun", ";", ",", ")", "]", "==", "%", "~", "\t", "1\t", "\x0b",
        ):
            self.body_place(f"{word} ;", 0)
            self.body_place(f"[ {word} ] ;", 1 if word != "]" else 2)
            self.body_place(f"1 + {word} ;", 2)
        for word in ("/=", "%", "!", "&&", "Mod", "div", "not", "1", "true", "b", "[", "(", "if", "let", "fun", "first"):
            self.body_place(f"1 {word} 1 ;", 1)

    def test_numbers(self):
        self.assertEqual(self.body("9" * 40), ("number", 10 ** 40 - 1))
        self.assertEqual(self.body("1" + "0" * 39), ("number", 10 ** 39))
        for word in ("1" + "0" * 40, "9" * 41, "00", "07", "01", "000", "0" * 40, "0" + "9" * 39):
            self.body_place(f"{word} ;", 0)
            self.body_place(f"a + {word} ;", 2)
            self.body_place(word, 0)

    def test_digits_and_letters_that_are_none_of_the_plain_ones(self):
        for word in ("\u0661", "\u00b2", "\u00e9", "a\u00e9"):
            self.body_place(f"{word} ;", 0)

    def test_names_of_functions(self):
        self.place("fun f ( ) = 1 ; fun f ( ) = 1 ;", 8, (read_program,))
        self.place("fun f ( ) = 1 ; fun g ( ) = 1 ; fun f", 15, (read_program,))
        for word in KEYWORDS + ["A", "1", "a" * 13, "(", "=", ";"]:
            self.place(f"fun {word} ( ) = 1 ;", 1)
            self.place(f"fun f ( {word} ) = 1 ;", 3)
            self.place(f"fun f ( a , {word} ) = 1 ;", 5)
            self.place(f"fun f ( ) = let {word} = 1 in 2 ;", 6)
        self.assertEqual(len(read_program("fun f ( ) = 1 ; fun g ( ) = 1 ; fun ff ( ) = 1 ;")), 3)

    def test_parameters_twice(self):
        self.place("fun f ( a , a ) = 1 ;", 5)
        self.place("fun f ( a , b , a", 7)
        self.place("fun f ( a , b , b ) = 1 ;", 7)

    def test_names_out_of_scope(self):
        self.body_place("x ;", 1)
        self.body_place("x", 1)
        self.body_place("x + 1 ;", 1)
        self.body_place("x x ;", 1)
        self.body_place("x [ ] ;", 1)
        self.body_place("[ x , a ] ;", 2)
        self.body_place("g ( x ) ;", 3)
        self.body_place("size ( x ) ;", 3)
        self.body_place("let x = x in x ;", 4)
        self.body_place("let x = 1 in y ;", 6)
        self.body_place("( let x = 1 in x ) + x ;", 10)
        self.body_place("[ let x = 1 in x , x ] ;", 9)
        self.body_place("let x = let y = 1 in y in y ;", 11)
        self.body_place("let x = 1 in let y = x in let x = y in x + y + z ;", 20)
        self.place("fun f ( a ) = a ; fun g ( b ) = a ;", 15, (read_program,))
        self.place("fun f ( ) = let x = 1 in x ; fun g ( ) = x ;", 18, (read_program,))
        self.place("fun f ( ) = f ;", 6)
        for body in ("x ( )", "let x = x ( ) in x", "let x = 1 in let x = x in x", "let a = a in a", "let x = 1 in [ x , x ]"):
            self.body(body)
        self.same("( let a = 1 in a ) + a", "( let a = 1 in a ) + ( a )")

    def test_one_comparison_in_a_chain_of_its_level(self):
        for one in ("==", "<", "<="):
            for other in ("==", "<", "<="):
                self.body_place(f"1 {one} 2 {other} 3 ;", 3)
                self.body_place(f"1 + 2 {one} 2 * 3 {other} 3 ;", 7)
                self.body_place(f"a or 1 {one} 2 - 1 {other} 3 ;", 7)
                self.body_place(f"1 {one} 2 and 1 {one} 2 {other} 3 ;", 7)
                self.same(f"1 {one} 2 and 3 {other} 4", f"( 1 {one} 2 ) and ( 3 {other} 4 )")
                self.same(f"1 {one} 2 or 3 {other} 4", f"( 1 {one} 2 ) or ( 3 {other} 4 )")
                self.assertEqual(self.body(f"( 1 {one} 2 ) {other} 3")[1], other)
                self.assertEqual(self.body(f"1 {one} ( 2 {other} 3 )")[1], one)
                self.body(f"g ( 1 {one} 2 , 3 {other} 4 ) < size ( a {one} b )")
                self.body(f"if 1 {one} 2 then 3 {other} 4 else 5 {other} 6")


class OpenWordsTest(ReaderTest):
    # Texts that open one word each, what stands within, and what ends them.
    SORTS = (
        ("(", ")"), ("[", "]"), ("[ 1 ,", "]"), ("g (", ")"), ("g ( 1 ,", ")"), ("first (", ")"), ("rest (", ")"),
        ("size (", ")"), ("if", "then 1 else 2"), ("if 1 then", "else 2"), ("if 1 then 1 else", ""), ("let x =", "in 1"),
        ("let x = 1 in", ""), ("( 1 + g (", ") )"),
    )

    def opening(self, begin):
        """How many words of one of the texts stand ahead of the one that is open."""
        words = begin.split()
        return [at for at, word in enumerate(words) if word in ("(", "[", "if", "let")][-1]

    def nested(self, begin, end, many):
        return " ".join([begin] * many + ["1"] + [end] * many)

    def deep_enough(self, text):
        """Read a text without a bad word, which may be too deep."""
        for read in (read_program, read_function):
            try:
                read(text)
            except TooMany as error:
                self.assertEqual(error.most, 12)

    def test_thirty_and_thirty_one_of_each_sort(self):
        for begin, end in self.SORTS[:-1]:
            with self.subTest(begin=begin):
                self.deep_enough(f"fun f ( ) = {self.nested(begin, end, 30)} ;")
                place = 30 * len(begin.split()) + self.opening(begin)
                self.place(f"fun f ( ) = {self.nested(begin, end, 31)} ;", 5 + place)

    def test_a_sort_with_two_words(self):
        begin, end = self.SORTS[-1]
        self.deep_enough(f"fun f ( ) = {self.nested(begin, end, 15)} ;")
        self.place(f"fun f ( ) = {self.nested(begin, end, 16)} ;", 5 + 15 * 5)

    def test_sorts_together(self):
        for begin, end in self.SORTS[:-1]:
            for inner, last in self.SORTS[:-1]:
                with self.subTest(begin=begin, inner=inner):
                    around = " ".join([begin] * 29), " ".join([end] * 29)
                    self.deep_enough(f"fun f ( ) = {around[0]} {inner} 1 {last} {around[1]} ;")
                    around = " ".join([begin] * 30), " ".join([end] * 30)
                    place = 5 + 30 * len(begin.split()) + self.opening(inner)
                    self.place(f"fun f ( ) = {around[0]} {inner} 1 {last} {around[1]} ;", place)

    def test_words_that_have_ended_are_no_longer_open(self):
        around = " ".join(["["] * 29), " ".join(["]"] * 29)
        for begin, end in self.SORTS[:-1]:
            one = f"{begin} 1 {end}"
            with self.subTest(begin=begin):
                self.deep_enough(f"fun f ( ) = {around[0]} {one} , {one} , {one} {around[1]} ;")
                self.deep_enough(f"fun f ( ) = [ {' , '.join([one] * 40)} ] ;")
                bad = f"fun f ( ) = {around[0]} {one} , [ {one} ] {around[1]} ;"
                self.place(bad, 5 + 29 + len(one.split()) + 2 + self.opening(begin))

    def test_brackets_between_operators(self):
        self.deep_enough(f"fun f ( ) = {' + '.join(['( 1 )'] * 100)} ;")
        self.deep_enough(f"fun f ( ) = {' + '.join(['g ( size ( [ ] ) )'] * 50)} ;")

    def test_each_function_begins_anew(self):
        one = self.nested("(", ")", 30)
        program = read_program(f"fun f ( ) = {one} ; fun g ( ) = {one} ;")
        self.assertEqual([function[2] for function in program], [("number", 1)] * 2)
        bad = self.nested("(", ")", 31)
        self.place(f"fun f ( ) = {one} ; fun g ( ) = {bad} ;", 5 + 61 + 1 + 5 + 30, (read_program,))

    def test_brackets_of_parameters_are_not_counted(self):
        self.assertEqual(read_function(f"fun f ( a ) = {self.nested('(', ')', 30)} ;")[2], ("number", 1))

    def test_the_thirty_first_is_bad_whatever_stands_ahead(self):
        around = " ".join(["("] * 30)
        self.place(f"fun f ( ) = {around} x ( )", 5 + 31)
        self.place(f"fun f ( a ) = {around} a ( )", 6 + 31)
        self.place(f"fun f ( ) = {around} first ( 1 )", 5 + 31)
        self.place(f"fun f ( ) = {around} 1 + size ( 1 )", 5 + 33)
        self.place(f"fun f ( ) = {around} 1 + [", 5 + 32)
        self.place(f"fun f ( ) = {around} if", 5 + 30)
        self.place(f"fun f ( ) = {around} let", 5 + 30)
        self.place(f"fun f ( ) = {around} let x =", 5 + 30)


class DepthTest(ReaderTest):
    def chain(self, operator, many):
        return f"fun f ( a ) = {f' {operator} '.join(['a'] * many)} ;"

    def too_deep(self, text):
        for read in (read_program, read_function):
            with self.assertRaises(TooMany) as caught:
                read(text)
            self.assertEqual(caught.exception.most, 12)

    def test_twelve_and_thirteen(self):
        for operator in ("or", "and", "+", "-", "*", "/", "mod"):
            self.assertEqual(depth_of(read_function(self.chain(operator, 12))[2]), 12)
            self.too_deep(self.chain(operator, 13))
        for begin, end in OpenWordsTest.SORTS[1:-1]:
            text = " ".join([begin] * 11 + ["1"] + [end] * 11)
            self.assertEqual(depth_of(read_function(f"fun f ( ) = {text} ;")[2]), 12)
            self.too_deep(f"fun f ( ) = {begin} {text} {end} ;")

    def test_any_function_may_be_too_deep(self):
        one, deep = "fun g ( ) = 1 ;", self.chain("+", 13)
        for text in (deep + one, one + deep):
            with self.assertRaises(TooMany) as caught:
                read_program(text.replace(";", " ; "))
            self.assertEqual(caught.exception.most, 12)

    def test_brackets_have_no_depth(self):
        text = " ".join(["("] * 18 + ["["] * 11 + ["1"] + ["]"] * 11 + [")"] * 18)
        self.assertEqual(depth_of(read_function(f"fun f ( ) = {text} ;")[2]), 12)

    def test_a_bad_word_comes_ahead_of_a_depth(self):
        words = self.chain("+", 13).split()
        self.place(" ".join(words[:-1]), len(words) - 1)
        self.place(" ".join(words[:-1] + [")"]), len(words) - 1)
        self.place(" ".join(words + ["fun", "f"]), len(words) + 1, (read_program,))
        self.place(" ".join(words + ["fun", "g"]), len(words) + 2, (read_program,))
        self.place(" ".join(words + ["fun"]), len(words), (read_function,))

    def test_long_chains(self):
        for operator in ("+", "-", "or"):
            self.too_deep(self.chain(operator, 740))
            self.too_deep(self.chain(operator, 5000))
        words = self.chain("+", 740).split()
        self.place(" ".join(words[:-1]), len(words) - 1)
        self.too_deep(f"fun f ( a ) = {' '.join(['a + ( a * a ) <= a or'] * 120)} a ;")

    def test_a_long_flat_text(self):
        self.assertEqual(len(read_function(f"fun f ( ) = [ {' , '.join(['1'] * 1400)} ] ;")[2][1]), 1400)


class AnyValueTest(ReaderTest):
    def test_what_is_no_string_is_wrong(self):
        for thing in ANY:
            for read in (read_program, read_function):
                with self.subTest(thing=thing, read=read.__name__):
                    if isinstance(thing, str):
                        with self.assertRaises(NoTree):
                            read(thing)
                    else:
                        with self.assertRaises(Wrong) as caught:
                            read(thing)
                        self.assertEqual(caught.exception.place, 0)

    def test_programs_are_no_strings(self):
        program = read_program(PROGRAMS[0])
        for thing in (program, program[0], [PROGRAMS[0]], (PROGRAMS[0],), PROGRAMS[0].split(), {PROGRAMS[0]: 1}):
            with self.assertRaises(Wrong) as caught:
                read_program(thing)
            self.assertEqual(caught.exception.place, 0)

    def test_read_function_wants_just_one(self):
        self.place("fun f ( ) = 1 ; fun g ( ) = 1 ;", 7, (read_function,))
        self.place("fun f ( ) = 1 ; 1", 7)


class BeginningsTest(ReaderTest):
    """What stands ahead of a bad word begins a text; so, cut there, it lacks something, or is a PROGRAM."""

    def test_texts_cut_at_their_bad_word(self):
        words = " ".join(PROGRAMS[4:7]).replace("fun f", "fun h", 1).replace("fun f", "fun k", 1).split()
        for at in range(len(words)):
            for word in ("1", "(", ")", "]", ",", "if", "then", "in", "a", "x", "+", "<", "fun", ";", "let", "true"):
                changed = words[:at] + [word] + words[at + 1:]
                try:
                    read_program(" ".join(changed))
                    continue
                except NoTree as error:
                    place = error.place
                self.assertLessEqual(place, len(changed))
                try:
                    read_program(" ".join(changed[:place]))
                except NoTree as error:
                    self.assertEqual(error.place, place)
