"""PROGRAMS that several tests run."""

import random

from askorhold.books import book_of
from askorhold.reader import read_program

FIB = read_program("fun fib ( n ) = if n < 2 then n else let m = n - 1 in fib ( m ) + fib ( m - 1 ) ;")
# Callees that several share; b and c take what another one took before.
SHARED = read_program(
    "fun top ( ) = [ a ( ) , b ( ) , c ( ) ] ; fun a ( ) = c ( ) + d ( ) ; fun b ( ) = d ( ) ; fun c ( ) = e ( ) ; "
    "fun d ( ) = 2 ; fun e ( ) = 3 ;"
)
# CALLS that are equal, but not ALIKE, and RESULTS, too.
KINDS = read_program(
    "fun both ( ) = [ is ( 1 ) , is ( true ) , is ( 0 ) , is ( false ) , is ( 1 ) ] ; fun is ( x ) = if x == true then 1 else "
    "if x == false then 0 else [ x ] ; fun same ( x ) = x ; fun pair ( ) = [ same ( true ) , same ( 1 ) ] ;"
)
FAULTS = read_program(
    "fun all ( n ) = if n == 0 then zero ( ) else if n == 1 then kind ( ) else if n == 2 then empty ( ) else if n == 3 then "
    "great ( ) else none ( n , all ( 0 ) ) ; fun zero ( ) = 1 / 0 ; fun kind ( ) = true + 1 ; fun empty ( ) = first ( [ ] ) ; "
    "fun great ( ) = let x = 9999999999999999999999999999999999999999 in x + x ; fun two ( ) = [ none ( [ ] ) , 1 ] ;"
)
DOWN = read_program("fun down ( n ) = if n == 0 then [ ] else [ down ( n - 1 ) ] ; fun ever ( n ) = ever ( n ) ;")
RUNS = (
    (FIB, ("fib", (0,))), (FIB, ("fib", (2,))), (FIB, ("fib", (6,))), (FIB, ("fib", (True,))), (SHARED, ("top", ())),
    (SHARED, ("a", ())), (KINDS, ("both", ())), (KINDS, ("pair", ())), (KINDS, ("same", ((1, (True, -2)),))),
    (FAULTS, ("all", (0,))), (FAULTS, ("all", (1,))), (FAULTS, ("all", (2,))), (FAULTS, ("all", (3,))), (FAULTS, ("all", (4,))),
    (FAULTS, ("two", ())), (FAULTS, ("two", (1,))), (FAULTS, ("there", ())), (DOWN, ("down", (9,))),
)


class Programs:
    """PROGRAMS of three FUNCTIONS that call one another, always the same ones for a seed."""

    def __init__(self, seed):
        self.chance = random.Random(seed)

    def body(self, depth):
        kind = self.chance.randrange(10) if depth else self.chance.randrange(3)
        part = lambda: self.body(depth - 1)
        if kind == 0:
            return self.chance.choice(["0", "1", "2", "true", "false", "[ ]"])
        if kind < 3:
            return "x"
        if kind < 6:
            return f"{self.chance.choice('fgh')} ( {self.chance.choice(['x', 'x - 1', 'rest ( x )', 'x < 1', '1', 'true'])} )"
        if kind == 6:
            return f"( if {part()} then {part()} else {part()} )"
        if kind == 7:
            return f"[ {part()} , {part()} ]"
        if kind == 8:
            return f"( let x = {part()} in {part()} )"
        return f"( {part()} {self.chance.choice(['and', 'or', '==', '<', '+', '-', '*', '/'])} {part()} )"

    def program(self):
        return read_program(" ".join(f"fun {name} ( x ) = if x == 0 or x == [ ] then 1 else {self.body(3)} ;" for name in "fgh"))


class Falling:
    """PROGRAMS of four FUNCTIONS that call one another with lesser numbers, and so end; always the same ones for a seed."""

    def __init__(self, seed):
        self.chance = random.Random(seed)

    def call(self):
        return f"{self.chance.choice('fghk')} ( {self.chance.choice(['n - 1', 'n - 1', 'n - 2', 'n / 2'])} )"

    def body(self):
        shape = self.chance.choice((
            "{} + {}", "[ {} , {} ]", "let m = {} in [ m , {} , m ]", "if {} == {} then {} else n", "size ( [ {} , {} ] )", "{} * 2",
            "let m = let m = {} in m in let k = {} in if m == k then [ ] else {}", "n", "if {} < 3 then {} else {}", "[ {} , {} , {} ]",
            "if {} == 1 then {} else {}",
        ))
        return shape.format(*[self.call() for _ in range(3)])

    def function(self, name):
        base = self.chance.choice(["n", "1", "[ ]", "[ n ]", "true", "0"])
        return f"fun {name} ( n ) = if n < {self.chance.randint(1, 2)} then {base} else {self.body()} ;"

    def program(self):
        return read_program(" ".join(self.function(name) for name in "fghk"))


def falling_runs(seed, many, least, most):
    """Tuples (PROGRAM, BOOK) of falling PROGRAMS, each BOOK having as many ENTRIES as told."""
    falling = Falling(seed)
    found = []
    while len(found) < many:
        program = falling.program()
        book = book_of(program, ("f", (falling.chance.randint(2, 7),)), 60)
        if least <= len(book) <= most:
            found.append((program, book))
    return found
