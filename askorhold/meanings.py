"""MEANINGS: PROGRAMS whose RESULTS are the right ones [21]."""

from askorhold.errors import Endless, TooMany
from askorhold.forms import are_alike, marks_of
from askorhold.runs import result_of


def right_result(meaning, call, most):
    """Return the RESULT that is right for a CALL."""
    return result_of(meaning, call, most)


def wrong_in(book, meaning, most):
    """Return the LOT of the indexes of all ENTRIES whose RESULT is not the right one."""
    wrong = []
    for index, (call, result, _) in enumerate(book):
        if not are_alike(result, right_result(meaning, call, most)):
            wrong.append(index)
    return tuple(wrong)


def right_notes(meaning, calls, most):
    """Return the NOTES that have the right RESULT for each of some CALLS."""
    return tuple([(call, right_result(meaning, call, most)) for call in calls])


def first_unlike(program, meaning, calls, most):
    """Return the index of the first CALL whose RESULTS in two PROGRAMS are not ALIKE, None if there is none."""
    for index, call in enumerate(calls):
        if ending_of(program, call, most) != ending_of(meaning, call, most):
            return index
    return None


def ending_of(program, call, most):
    """Return what runs that end in ALIKE ways have in common with no others."""
    try:
        return marks_of(result_of(program, call, most))
    except Endless:
        return "endless"
    except TooMany:
        return "too many"
