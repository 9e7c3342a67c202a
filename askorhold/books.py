"""BOOKS: the graph of the calls of a run, judged ENTRY by ENTRY [18]."""

from askorhold.bodies import NoteTaker, body_value, is_need, table_of
from askorhold.forms import are_alike, are_alike_calls, is_call, is_lot, is_result, is_tuple, marks_of, weight
from askorhold.runs import run
from askorhold.trees import lets_deep
from askorhold.webs import below


def book_of(program, call, most):
    """Return the BOOK of the run of a CALL."""
    notes = run(program, call, most)
    table = table_of(notes)
    book = []
    for noted, result in notes:
        _, places = gone_over(program, noted, table)
        book.append((noted, result, tuple(sorted(places))))
    return tuple(book)


def gone_over(program, call, table):
    """Return how working out a CALL over a table of NOTES ends, and the places of its CALLEES, as they are taken."""
    taker = NoteTaker(table)
    ended = body_value(program, call, taker)
    places = {marks: place for place, marks in enumerate(table)}
    return ended, tuple([places[marks] for marks in taker.taken])


def is_entry(program, notes, thing):
    """Tell whether a thing is an ENTRY over NOTES."""
    return places_if_entry(program, table_of(notes), thing) is not None


def places_if_entry(program, table, thing):
    """Return the places of the CALLEES of an ENTRY over a table, as they are taken, None if a thing is no ENTRY."""
    if not is_tuple(thing) or len(thing) != 3:
        return None
    call, result, callees = thing
    if not is_call(call) or not is_result(result) or not is_lot(callees) or marks_of(call) in table:
        return None
    ended, places = gone_over(program, call, table)
    if is_need(ended) or not are_alike(ended, result) or callees != tuple(sorted(places)):
        return None
    return places


def is_book(program, thing):
    """Tell whether a thing is a BOOK of the PROGRAM."""
    if not is_tuple(thing) or not thing:
        return False
    table = {}
    taken = []
    for part in thing:
        places = places_if_entry(program, table, part)
        if places is None:
            return False
        table[marks_of(part[0])] = part[:2]
        taken.append(places)
    return run_order(taken) == list(range(len(thing)))


def run_order(taken):
    """Return the indexes in the order in which a run of the last one would come to know them."""
    # What is not below the last one is not gone to, so it lacks here.
    order = []
    begun = {len(taken) - 1: True}
    waiting = [len(taken) - 1]
    while waiting:
        needed = [callee for callee in taken[waiting[-1]] if callee not in begun]
        if needed:
            begun[needed[0]] = True
            waiting.append(needed[0])
        else:
            order.append(waiting.pop())
    return order


def notes_of(book):
    """Return the NOTES of all ENTRIES."""
    return tuple([entry[:2] for entry in book])


def index_of(book, call):
    """Return the index of the ENTRY of a CALL, None if there is none."""
    for index, entry in enumerate(book):
        if are_alike_calls(entry[0], call):
            return index
    return None


def taken_by(program, book, index):
    """Return the indexes of the CALLEES of an ENTRY in the order in which they were first taken."""
    _, places = gone_over(program, book[index][0], table_of(notes_of(book[:index])))
    return places


def web_of(program, book):
    """Return the WEB of a BOOK."""
    readings = {function[0]: lets_deep(function[2]) for function in program}
    return tuple([(callees, weight(result), readings.get(call[0], 0)) for call, result, callees in book])


def part_of(book, index):
    """Return the ENTRIES BELOW one and itself, with their new indexes."""
    kept = below([(entry[2],) for entry in book], index) + (index,)
    renamed = {old: new for new, old in enumerate(kept)}
    part = []
    for old in kept:
        call, result, callees = book[old]
        part.append((call, result, tuple([renamed[callee] for callee in callees])))
    return tuple(part)
