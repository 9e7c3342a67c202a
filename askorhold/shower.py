"""Texts of EXPRESSIONS, FUNCTIONS and PROGRAMS [14]."""

BRACKETED = ("two", "if", "let")


def show_expression(expression):
    """Return the text of an EXPRESSION: words with one blank between two."""
    words = []
    waiting = [expression]
    while waiting:
        piece = waiting.pop()
        if isinstance(piece, str):
            words.append(piece)
        else:
            waiting.extend(pieces_of(piece)[::-1])
    return " ".join(words)


def pieces_of(expression):
    """Return the words and the EXPRESSIONS, in order, whose texts make that of an EXPRESSION."""
    kind = expression[0]
    if kind == "number":
        return [str(expression[1])]
    if kind == "truth":
        return ["true" if expression[1] else "false"]
    if kind == "name":
        return [expression[1]]
    if kind == "call":
        return [expression[1], "("] + with_commas(expression[2]) + [")"]
    if kind == "list":
        return ["["] + with_commas(expression[1]) + ["]"]
    if kind == "if":
        return ["if", expression[1], "then", expression[2], "else", expression[3]]
    if kind == "let":
        return ["let", expression[1], "=", expression[2], "in", expression[3]]
    if kind == "one":
        return [expression[1], "(", expression[2], ")"]
    return operand(expression[2]) + [expression[1]] + operand(expression[3])


def operand(expression):
    """Return the pieces of one of the two E's of a "two"."""
    if expression[0] in BRACKETED:
        return ["(", expression, ")"]
    return [expression]


def with_commas(pieces):
    """Return the list of pieces with a comma between two."""
    parted = []
    for piece in pieces:
        if parted:
            parted.append(",")
        parted.append(piece)
    return parted


def show_function(function):
    """Return the text of a FUNCTION."""
    name, parameters, expression = function
    head = " ".join(["fun", name, "("] + with_commas(parameters) + [")", "="])
    return f"{head} {show_expression(expression)} ;"


def show_program(program):
    """Return the texts of all FUNCTIONS, with a line feed between two."""
    return "\n".join([show_function(function) for function in program])
