"""Blame: which definitions make RESULTS wrong [22]."""

from askorhold.bodies import NoteTaker, body_value, is_need
from askorhold.forms import are_alike, marks_of
from askorhold.meanings import right_result, wrong_in
from askorhold.trees import function_of, with_function


def to_blame(book, wrong):
    """Return the LOT of those of the wrong ENTRIES that have no wrong callees."""
    return tuple([index for index in wrong if not wrong_callees(book, wrong, index)])


def wrong_callees(book, wrong, index):
    """Return the callees of an ENTRY that are wrong."""
    return [callee for callee in book[index][2] if callee in wrong]


def blame_below(book, wrong, index):
    """Return the LOT of those of to_blame that are a wrong ENTRY, or are come to from it by wrong ones."""
    come_to = {index: True}
    # Callees are lesser, so all that come to an ENTRY are done when its turn comes.
    for lower in reversed(range(index + 1)):
        if lower in come_to:
            come_to.update({callee: True for callee in wrong_callees(book, wrong, lower)})
    return tuple([blamed for blamed in to_blame(book, wrong) if blamed in come_to])


def wanted(program, meaning, call, most):
    """Return what working out a CALL over right RESULTS ends with, and the right RESULT."""
    table = {}
    while True:
        ended = body_value(program, call, NoteTaker(table))
        if not is_need(ended):
            return (ended, right_result(meaning, call, most))
        needed = ended[1]
        table[marks_of(needed)] = (needed, right_result(meaning, needed, most))


def is_to_blame(program, meaning, call, most):
    """Tell whether working out a CALL over right RESULTS ends with a wrong one."""
    result, right = wanted(program, meaning, call, most)
    return not are_alike(result, right)


def is_blame_shown(program, meaning, book, most):
    """Tell whether each CALL of a BOOK that is to blame there is to blame by its definition."""
    blamed = to_blame(book, wrong_in(book, meaning, most))
    return all([is_to_blame(program, meaning, book[index][0], most) for index in blamed])


def mended(program, meaning, name):
    """Return the PROGRAM with the FUNCTION that the MEANING has for a NAME."""
    return with_function(program, function_of(meaning, name))
