"""Working out CALLS over NOTES [16]."""

from askorhold.forms import MOST_DIGITS, MOST_WEIGHT, are_alike, digits_of, is_integer, is_string, is_tuple, marks_of
from askorhold.forms import weight
from askorhold.trees import found_function, parts_of

KIND = ("fault", "kind")
ZERO = ("fault", "zero")
EMPTY = ("fault", "empty")
GREAT = ("fault", "great")
COUNT = ("fault", "count")


class NoteTaker:
    """A table of NOTES by the marks of their CALLS, and the CALLEES whose RESULTS were taken from it."""

    def __init__(self, table):
        self.table = table
        self.taken = {}

    def take(self, call):
        """Return the RESULT that is noted for a CALL, or what says that it is needed."""
        marks = marks_of(call)
        if marks not in self.table:
            return ("needs", call)
        noted, result = self.table[marks]
        self.taken[marks] = noted
        return result

    def callees(self):
        """Return the CALLEES in the order in which their RESULTS were first taken."""
        return tuple(self.taken.values())


def worked_out(program, call, notes):
    """Work out a CALL over NOTES."""
    taker = NoteTaker(table_of(notes))
    return told(body_value(program, call, taker), taker.callees())


def evaluated(expression, names, notes):
    """Evaluate an EXPRESSION alone, names standing for the VALUES of a dict."""
    taker = NoteTaker(table_of(notes))
    return told(value_of(expression, names, taker), taker.callees())


def table_of(notes):
    """Return NOTES as a dict from the marks of their CALLS."""
    return {marks_of(note[0]): note for note in notes}


def told(ended, callees):
    """Return what working out tells when it ended so."""
    if is_need(ended):
        return ("needs", ended[1], callees)
    return ("result", ended, callees)


def is_need(ended):
    """Tell whether a working out ended because it needs a CALL."""
    return is_end(ended) and ended[0] == "needs"


def is_end(ended):
    """Tell whether this is no VALUE, but a FAULT or a need, which end a working out."""
    return is_tuple(ended) and len(ended) == 2 and is_string(ended[0])


def body_value(program, call, taker):
    """Return the RESULT of a CALL, its body taking RESULTS from the taker, or the need that ended it."""
    name, values = call
    function = found_function(program, name)
    if function is None or len(function[1]) != len(values):
        return COUNT
    return value_of(function[2], dict(zip(function[1], values)), taker)


def value_of(expression, names, taker):
    """Return the VALUE of an EXPRESSION, or the FAULT or the need that ended it."""
    kind = expression[0]
    if kind == "number" or kind == "truth":
        return expression[1]
    if kind == "name":
        return names[expression[1]]
    if kind == "if":
        return chosen(expression, names, taker)
    if kind == "let":
        return value_with_name(expression, names, taker)
    if kind == "two" and expression[1] in ("and", "or"):
        return value_of_logic(expression, names, taker)
    values = []
    for part in parts_of(expression):
        value = value_of(part, names, taker)
        if is_end(value):
            return value
        values.append(value)
    return value_of_parts(expression, tuple(values), taker)


def chosen(expression, names, taker):
    """Return the VALUE of an "if"."""
    test = value_of(expression[1], names, taker)
    if is_end(test):
        return test
    if not isinstance(test, bool):
        return KIND
    return value_of(expression[2] if test else expression[3], names, taker)


def value_with_name(expression, names, taker):
    """Return the VALUE of a "let"."""
    named = value_of(expression[2], names, taker)
    if is_end(named):
        return named
    inner = dict(names)
    inner[expression[1]] = named
    return value_of(expression[3], inner, taker)


def value_of_logic(expression, names, taker):
    """Return the VALUE of an "and" or an "or"."""
    first = value_of(expression[2], names, taker)
    if is_end(first):
        return first
    if not isinstance(first, bool):
        return KIND
    if first == (expression[1] == "or"):
        return first
    second = value_of(expression[3], names, taker)
    if is_end(second) or isinstance(second, bool):
        return second
    return KIND


def value_of_parts(expression, values, taker):
    """Return the VALUE of an EXPRESSION all of whose parts have these VALUES."""
    kind = expression[0]
    if kind == "list":
        return list_made(values)
    if kind == "call":
        return taker.take((expression[1], values))
    if kind == "one":
        return value_of_one(expression[1], values[0])
    return value_of_two(expression[1], values[0], values[1])


def list_made(values):
    """Return a LIST that is made, or a FAULT if it is too heavy."""
    if weight(values) > MOST_WEIGHT:
        return GREAT
    return values


def value_of_one(word, value):
    """Return what "first", "rest" or "size" makes of a VALUE."""
    if not is_tuple(value):
        return KIND
    if word == "size":
        return len(value)
    if not value:
        return EMPTY
    if word == "first":
        return value[0]
    return value[1:]


def value_of_two(operator, one, other):
    """Return what an operator that always wants both VALUES makes of them."""
    if operator == "==":
        return are_alike(one, other)
    if operator == "+" and is_tuple(one) and is_tuple(other):
        return list_made(one + other)
    if not is_integer(one) or not is_integer(other):
        return KIND
    if operator == "<":
        return one < other
    if operator == "<=":
        return one <= other
    if operator == "/" or operator == "mod":
        return divided(operator, one, other)
    return integer_made(operator, one, other)


def divided(operator, one, other):
    """Return what "/" or "mod" makes of two integers."""
    if other == 0:
        return ZERO
    if operator == "/":
        return one // other
    return one % other


def integer_made(operator, one, other):
    """Return what "+", "-" or "*" makes of two integers, or a FAULT if it has too many digits."""
    if operator == "+":
        made = one + other
    elif operator == "-":
        made = one - other
    else:
        made = one * other
    if digits_of(made) > MOST_DIGITS:
        return GREAT
    return made
