"""EXPRESSIONS, FUNCTIONS and PROGRAMS as trees of tuples [13]."""

from askorhold.errors import NoFunction
from askorhold.forms import MOST_DIGITS, digits_of, is_integer, is_name, is_string, is_tuple

LENGTHS = {"number": 2, "truth": 2, "name": 2, "call": 3, "list": 2, "if": 4, "let": 4, "one": 3, "two": 4}
ONE_WORDS = ("first", "rest", "size")
OPERATORS = ("or", "and", "==", "<", "<=", "+", "-", "*", "/", "mod")


def parts_of(expression):
    """Return the EXPRESSIONS that are items of one, or of the tuple in it."""
    kind = expression[0]
    if kind == "call" or kind == "list":
        return expression[-1]
    if kind == "if":
        return expression[1:]
    if kind == "let" or kind == "one" or kind == "two":
        return expression[2:]
    return ()


def is_head(kind, head):
    """Tell whether what stands behind the kind of an EXPRESSION may stand there, if it is no EXPRESSION."""
    if kind == "number":
        return is_integer(head) and head >= 0 and digits_of(head) <= MOST_DIGITS
    if kind == "truth":
        return isinstance(head, bool)
    if kind == "name" or kind == "call" or kind == "let":
        return is_name(head)
    if kind == "one":
        return head in ONE_WORDS
    if kind == "two":
        return head in OPERATORS
    return True


def is_shaped(thing):
    """Tell whether a thing is an EXPRESSION if all of its parts are."""
    if not is_tuple(thing) or not thing or not is_string(thing[0]):
        return False
    if len(thing) != LENGTHS.get(thing[0]):
        return False
    return is_head(thing[0], thing[1]) and is_tuple(parts_of(thing))


def is_expression(thing):
    """Tell whether a thing is an EXPRESSION, whatever its names stand for."""
    waiting = [thing]
    while waiting:
        part = waiting.pop()
        if not is_shaped(part):
            return False
        waiting.extend(parts_of(part))
    return True


def are_unlike_names(thing):
    """Tell whether a thing is a tuple of unlike NAMES."""
    if not is_tuple(thing) or not all([is_name(name) for name in thing]):
        return False
    return len(set(thing)) == len(thing)


def is_function(thing):
    """Tell whether a thing is a FUNCTION, each name in it being a parameter or that of a let around it."""
    if not is_tuple(thing) or len(thing) != 3:
        return False
    name, parameters, expression = thing
    if not is_name(name) or not are_unlike_names(parameters) or not is_expression(expression):
        return False
    return all([free in parameters for free in free_names(expression)])


def is_program(thing):
    """Tell whether a thing is a PROGRAM."""
    if not is_tuple(thing) or not thing or not all([is_function(function) for function in thing]):
        return False
    return are_unlike_names(tuple([function[0] for function in thing]))


def depth_of(expression):
    """Return how many EXPRESSIONS stand in one another at most."""
    # Level by level: a chain of operators is too deep for calls that go down it.
    depth = 0
    level = [expression]
    while level:
        depth += 1
        level = [part for outer in level for part in parts_of(outer)]
    return depth


def free_names(expression):
    """Return the ascending NAMES that stand in no second E of a let of theirs."""
    found = []
    waiting = [(expression, ())]
    while waiting:
        part, bound = waiting.pop()
        if part[0] == "name" and part[1] not in bound:
            found.append(part[1])
        if part[0] == "let":
            waiting.append((part[2], bound))
            waiting.append((part[3], bound + (part[1],)))
        else:
            waiting.extend([(inner, bound) for inner in parts_of(part)])
    return tuple(sorted(set(found)))


def names_called(expression):
    """Return the ascending NAMES of all calls in an EXPRESSION."""
    found = []
    waiting = [expression]
    while waiting:
        part = waiting.pop()
        if part[0] == "call":
            found.append(part[1])
        waiting.extend(parts_of(part))
    return tuple(sorted(set(found)))


def lets_deep(expression):
    """Return how many lets stand in one another at most."""
    most = 0
    waiting = [(expression, 0)]
    while waiting:
        part, around = waiting.pop()
        lets = around + 1 if part[0] == "let" else around
        most = max(most, lets)
        waiting.extend([(inner, lets) for inner in parts_of(part)])
    return most


def found_function(program, name):
    """Return the FUNCTION with a NAME, None if there is none."""
    for function in program:
        if function[0] == name:
            return function
    return None


def function_of(program, name):
    """Return the FUNCTION with a NAME; raise NoFunction if there is none."""
    function = found_function(program, name)
    if function is None:
        raise NoFunction(name)
    return function


def with_function(program, function):
    """Return the PROGRAM with a FUNCTION in the place of the one with its NAME, or behind all others."""
    if found_function(program, function[0]) is None:
        return program + (function,)
    return tuple([function if old[0] == function[0] else old for old in program])


def without_function(program, name):
    """Return the PROGRAM without the FUNCTION with a NAME; raise NoFunction if there is none."""
    if found_function(program, name) is None:
        raise NoFunction(name)
    return tuple([function for function in program if function[0] != name])


def changed_names(program, other):
    """Return the ascending NAMES of the FUNCTIONS that are not in both PROGRAMS, or not the same in both."""
    mine = {function[0]: function for function in program}
    theirs = {function[0]: function for function in other}
    names = sorted(set(list(mine) + list(theirs)))
    return tuple([name for name in names if mine.get(name) != theirs.get(name)])
