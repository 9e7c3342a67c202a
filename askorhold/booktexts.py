"""Texts of RESULTS and CALLS [19], and of BOOKS [20]."""

from askorhold.errors import NoTree, TooMany, Wrong
from askorhold.forms import FAULT_WORDS, MOST_WEIGHT, is_fault, is_string, is_tuple, weight
from askorhold.reader import Reading, is_number_word, listed, words_of
from askorhold.shower import with_commas
from askorhold.webs import is_lot_below

MOST_LISTS = 100


def show_result(result):
    """Return the text of a RESULT: words with one blank between two."""
    if is_fault(result):
        return f"fault {result[1]}"
    words = []
    # A stack, as VALUES may be deeper than calls of Python should be.
    waiting = [result]
    while waiting:
        piece = waiting.pop()
        if is_tuple(piece):
            waiting.append("]")
            waiting.extend(with_commas(piece)[::-1])
            waiting.append("[")
        else:
            words.append(word_of(piece))
    return " ".join(words)


def word_of(piece):
    """Return the word of a truth or an integer, or the word itself."""
    if isinstance(piece, bool):
        return "true" if piece else "false"
    return str(piece)


def show_call(call):
    """Return the text of a CALL."""
    name, values = call
    words = [name, "("] + with_commas([show_result(value) for value in values]) + [")"]
    return " ".join(words)


def show_book(book):
    """Return one line for each ENTRY."""
    return "\n".join([show_entry(index, entry) for index, entry in enumerate(book)])


def show_entry(index, entry):
    """Return the line of an ENTRY."""
    call, result, callees = entry
    words = [str(index), ":", show_call(call), "=", show_result(result), "<"]
    return " ".join(words + [str(callee) for callee in callees])


def read_result(text):
    """Return the RESULT that a text shows."""
    result = read_whole(text, shown_result)
    check_weights((result,))
    return result


def read_call(text):
    """Return the CALL that a text shows."""
    call = read_whole(text, shown_call)
    check_weights(call[1])
    return call


def read_whole(text, read_part):
    """Return what a function reads from a text, behind which nothing stands."""
    if not is_string(text):
        raise Wrong(0)
    reading = Reading(words_of(text), MOST_LISTS)
    shown = read_part(reading)
    if reading.word() is not None:
        raise NoTree(reading.place)
    return shown


def check_weights(results):
    """Raise TooMany if a LIST in some RESULTS is too heavy."""
    for result in results:
        if weight(result) > MOST_WEIGHT:
            raise TooMany(MOST_WEIGHT)


def shown_result(reading):
    """Read a RESULT."""
    if reading.word() != "fault":
        return shown_value(reading)
    reading.step()
    word = reading.word()
    if word not in FAULT_WORDS:
        raise NoTree(reading.place)
    reading.step()
    return ("fault", word)


def shown_call(reading):
    """Read a CALL."""
    name = reading.new_name(())
    reading.expect("(")
    return (name, listed(reading, ")", shown_value))


def shown_value(reading):
    """Read a VALUE."""
    if reading.word() == "[":
        reading.enter()
        items = listed(reading, "]", shown_value)
        reading.leave()
        return items
    return plain_value(reading)


def plain_value(reading):
    """Read an integer or a truth."""
    word = reading.word()
    if word is None:
        raise NoTree(reading.place)
    if word == "true" or word == "false":
        reading.step()
        return word == "true"
    if not is_integer_word(word):
        raise NoTree(reading.place)
    reading.step()
    return int(word)


def is_integer_word(word):
    """Tell whether a word shows an integer of at most forty digits."""
    if word.startswith("-"):
        return word != "-" and word != "-0" and is_number_word(word[1:])
    return is_number_word(word)


def read_book(text):
    """Return the ENTRIES that the lines of a text show."""
    if not is_string(text):
        raise Wrong(0)
    lines = text.split("\n")
    entries = []
    for at, line in enumerate(lines):
        words = words_of(line)
        if words:
            entries.append(read_entry(at, words, len(entries)))
    if not entries:
        raise NoTree(len(lines))
    return tuple(entries)


def read_entry(at, words, index):
    """Return the ENTRY with an index that the words of a line show; raise NoTree with the line's place."""
    try:
        return shown_entry(Reading(words, MOST_LISTS), index)
    except (NoTree, TooMany):
        raise NoTree(at)


def shown_entry(reading, index):
    """Read the ENTRY with an index, and the end of its line."""
    reading.expect(str(index))
    reading.expect(":")
    call = shown_call(reading)
    reading.expect("=")
    result = shown_result(reading)
    reading.expect("<")
    callees = shown_callees(reading, index)
    check_weights(call[1] + (result,))
    return (call, result, callees)


def shown_callees(reading, index):
    """Read a LOT of lesser indexes that goes on to the end of the line."""
    callees = []
    while reading.word() is not None:
        if not is_number_word(reading.word()):
            raise NoTree(reading.place)
        callees.append(int(reading.word()))
        reading.step()
    if not is_lot_below(index, tuple(callees)):
        raise NoTree(reading.place)
    return tuple(callees)
