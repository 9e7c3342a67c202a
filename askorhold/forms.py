"""Names, VALUES, FAULTS, CALLS and NOTES: what they are, and when two are ALIKE [12]."""

KEYWORDS = (
    "fun", "let", "in", "if", "then", "else", "and", "or", "mod", "true", "false", "first", "rest", "size",
)
FAULT_WORDS = ("kind", "zero", "empty", "great", "count")
MOST_LETTERS = 12
MOST_DIGITS = 40
MOST_WEIGHT = 200


def is_tuple(thing):
    """Tell whether a thing is just a tuple."""
    return type(thing) == tuple


def is_string(thing):
    """Tell whether a thing is just a string."""
    return type(thing) == str


def is_integer(thing):
    """Tell whether a thing is an integer and no truth."""
    return type(thing) == int


def is_name(thing):
    """Tell whether a thing is a NAME."""
    if not is_string(thing) or not 1 <= len(thing) <= MOST_LETTERS:
        return False
    return all(["a" <= letter <= "z" for letter in thing]) and thing not in KEYWORDS


def is_lot(thing):
    """Tell whether a thing is an ascending tuple of integers from 0 on."""
    if not is_tuple(thing):
        return False
    least = 0
    for member in thing:
        if not is_integer(member) or member < least:
            return False
        least = member + 1
    return True


def is_value(thing):
    """Tell whether a thing is a VALUE."""
    # A stack, as VALUES may be deeper than calls of Python should be.
    waiting = [thing]
    while waiting:
        part = waiting.pop()
        if is_tuple(part):
            waiting.extend(part)
        elif not is_integer(part) and not isinstance(part, bool):
            return False
    return True


def is_fault(thing):
    """Tell whether a thing is a FAULT."""
    if not is_tuple(thing) or len(thing) != 2:
        return False
    return thing[0] == "fault" and thing[1] in FAULT_WORDS


def is_result(thing):
    """Tell whether a thing is a VALUE or a FAULT."""
    return is_fault(thing) or is_value(thing)


def is_call(thing):
    """Tell whether a thing is a CALL."""
    if not is_tuple(thing) or len(thing) != 2:
        return False
    return is_name(thing[0]) and is_tuple(thing[1]) and is_value(thing[1])


def is_note(thing):
    """Tell whether a thing is a tuple (CALL, RESULT)."""
    if not is_tuple(thing) or len(thing) != 2:
        return False
    return is_call(thing[0]) and is_result(thing[1])


def is_notes(thing):
    """Tell whether a thing is NOTES, no two of whose CALLS are ALIKE."""
    if not is_tuple(thing) or not all([is_note(note) for note in thing]):
        return False
    return len(set([marks_of(note[0]) for note in thing])) == len(thing)


def marks_of(thing):
    """Return a flat tuple that ALIKE CALLS, and ALIKE RESULTS, have in common with no others."""
    # 1 and True are one key of a dict; a truth has a word for its mark, so that they are not mixed up.
    marks = []
    waiting = [thing]
    while waiting:
        part = waiting.pop()
        if is_tuple(part):
            marks.append(f"list of {len(part)}")
            waiting.extend(part[::-1])
        elif isinstance(part, bool):
            marks.append("true" if part else "false")
        else:
            marks.append(part)
    return tuple(marks)


def are_alike(one, other):
    """Tell whether two RESULTS are ALIKE VALUES or equal FAULTS."""
    return marks_of(one) == marks_of(other)


def are_alike_calls(one, other):
    """Tell whether two CALLS are ALIKE."""
    return marks_of(one) == marks_of(other)


def result_in(notes, call):
    """Return the RESULT that NOTES have for a CALL, None if they have none."""
    marks = marks_of(call)
    for noted, result in notes:
        if marks_of(noted) == marks:
            return result
    return None


def weight(result):
    """Return the WEIGHT of a RESULT."""
    if is_fault(result):
        return 1
    total = 0
    waiting = [result]
    while waiting:
        part = waiting.pop()
        total += 1
        if is_tuple(part):
            waiting.extend(part)
    return total


def digits_of(number):
    """Return how many digits an integer has, without a sign."""
    digits = 1
    rest = abs(number) // 10
    while rest > 0:
        digits += 1
        rest = rest // 10
    return digits
