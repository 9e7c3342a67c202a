"""FACTS: which RESULTS were told to be right, and which to be wrong [36]."""

from askorhold.errors import Contrary
from askorhold.forms import marks_of


def fact_of(facts, call, result):
    """Return whether it is told that a RESULT is right, None if nothing is told of it."""
    return told_in(facts_by_call(facts), call, result)


def facts_by_call(facts):
    """Return the dict from the marks of CALLS to lists of the marks of their RESULTS, and whether these are right."""
    table = {}
    for call, result, is_right in facts:
        table.setdefault(marks_of(call), []).append((marks_of(result), is_right))
    return table


def told_in(table, call, result):
    """Return what a table of FACTS tells of a RESULT, None if it tells nothing."""
    marks = marks_of(result)
    told = None
    for other, is_right in table.get(marks_of(call), []):
        if other == marks:
            return is_right
        if is_right:
            told = False
    return told


def with_fact(facts, call, result, is_right):
    """Return the FACTS with one more; raise Contrary if the contrary is told."""
    told = fact_of(facts, call, result)
    if told is None:
        return facts + ((call, result, is_right),)
    if told != is_right:
        raise Contrary(call)
    return facts


def known_right(facts, book):
    """Return the LOT of all ENTRIES that are told to be right."""
    return entries_told(facts, book, True)


def known_wrong(facts, book):
    """Return the LOT of all ENTRIES that are told to be wrong."""
    return entries_told(facts, book, False)


def entries_told(facts, book, is_right):
    """Return the LOT of all ENTRIES of which just this is told."""
    table = facts_by_call(facts)
    return tuple([index for index, entry in enumerate(book) if told_in(table, entry[0], entry[1]) == is_right])
