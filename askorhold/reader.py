"""Reading PROGRAMS and FUNCTIONS from texts [15]."""

from askorhold.errors import NoTree, TooMany, Wrong
from askorhold.forms import MOST_DIGITS, is_name, is_string
from askorhold.trees import ONE_WORDS, depth_of

LEVELS = {"or": 1, "and": 2, "==": 3, "<": 3, "<=": 3, "+": 4, "-": 4, "*": 5, "/": 5, "mod": 5}
COMPARING = 3
MOST_OPEN = 30
MOST_DEPTH = 12


class Reading:
    """The words of a text, how far they are read, the names in scope, and how many words are and may be open."""

    def __init__(self, words, most_open):
        self.words = words
        self.most_open = most_open
        self.place = 0
        self.scope = []
        self.many_open = 0

    def word(self):
        """Return the word that is read next, None behind the last one."""
        if self.place < len(self.words):
            return self.words[self.place]
        return None

    def step(self):
        """Go one word on."""
        self.place += 1

    def expect(self, word):
        """Go on over just this word."""
        if self.word() != word:
            raise NoTree(self.place)
        self.step()

    def enter(self):
        """Go on over a word that is open from here on."""
        if self.many_open == self.most_open:
            raise NoTree(self.place)
        self.many_open += 1
        self.step()

    def leave(self):
        """Let the word that was opened last be open no more."""
        self.many_open -= 1

    def new_name(self, taken):
        """Go on over a NAME that is none of those taken, and return it."""
        name = self.word()
        if not is_name(name) or name in taken:
            raise NoTree(self.place)
        self.step()
        return name


def words_of(text):
    """Return the words of a text, which blanks and line feeds part."""
    return [word for word in text.replace("\n", " ").split(" ") if word]


def is_number_word(word):
    """Tell whether a word is a number without a needless 0, of at most forty digits."""
    if not all(["0" <= sign <= "9" for sign in word]) or len(word) > MOST_DIGITS:
        return False
    return word == "0" or word[0] != "0"


def read_program(text):
    """Return the PROGRAM that a text shows."""
    if not is_string(text):
        raise Wrong(0)
    reading = Reading(words_of(text), MOST_OPEN)
    functions = [function(reading, [])]
    while reading.word() is not None:
        functions.append(function(reading, [earlier[0] for earlier in functions]))
    check_depths(functions)
    return tuple(functions)


def read_function(text):
    """Return the one FUNCTION that a text shows."""
    if not is_string(text):
        raise Wrong(0)
    reading = Reading(words_of(text), MOST_OPEN)
    shown = function(reading, [])
    if reading.word() is not None:
        raise NoTree(reading.place)
    check_depths([shown])
    return shown


def check_depths(functions):
    """Raise TooMany if an E is too deep."""
    for shown in functions:
        if depth_of(shown[2]) > MOST_DEPTH:
            raise TooMany(MOST_DEPTH)


def function(reading, names):
    """Read a FUNCTION whose NAME is none of the names."""
    reading.expect("fun")
    name = reading.new_name(names)
    reading.expect("(")
    parameters = parameters_of(reading)
    reading.expect("=")
    reading.scope = list(parameters)
    body = expression(reading)
    reading.expect(";")
    return (name, parameters, body)


def parameters_of(reading):
    """Read parameters and the bracket behind them."""
    parameters = []
    if reading.word() != ")":
        parameters.append(reading.new_name(parameters))
        while reading.word() == ",":
            reading.step()
            parameters.append(reading.new_name(parameters))
    reading.expect(")")
    return tuple(parameters)


def expression(reading):
    """Read an E that goes as far as it can."""
    if reading.word() == "if":
        return choice(reading)
    if reading.word() == "let":
        return naming(reading)
    return operator_chain(reading)


def choice(reading):
    """Read an "if"."""
    reading.enter()
    test = expression(reading)
    reading.expect("then")
    one = expression(reading)
    reading.expect("else")
    other = expression(reading)
    reading.leave()
    return ("if", test, one, other)


def naming(reading):
    """Read a "let"."""
    reading.enter()
    name = reading.new_name(())
    reading.expect("=")
    named = expression(reading)
    reading.expect("in")
    reading.scope.append(name)
    inner = expression(reading)
    reading.scope.pop()
    reading.leave()
    return ("let", name, named, inner)


def operator_chain(reading):
    """Read ITEMS with operators between."""
    # Operators wait until none behind them binds tighter, so their levels ascend.
    waiting = []
    read = [item(reading)]
    while reading.word() in LEVELS:
        operator = reading.word()
        level = LEVELS[operator]
        if level == COMPARING and COMPARING in [LEVELS[earlier] for earlier in waiting]:
            raise NoTree(reading.place)
        join_trees(waiting, read, level)
        reading.step()
        waiting.append(operator)
        read.append(item(reading))
    join_trees(waiting, read, 0)
    return read[0]


def join_trees(waiting, read, level):
    """Make trees of the last operators that wait, as long as they bind at least as tight as a level."""
    while waiting and LEVELS[waiting[-1]] >= level:
        right = read.pop()
        left = read.pop()
        read.append(("two", waiting.pop(), left, right))


def item(reading):
    """Read an ITEM of a chain."""
    word = reading.word()
    if word is None:
        raise NoTree(reading.place)
    if word == "(":
        return within(reading)
    if word == "[":
        return ("list", parts(reading, "]"))
    if word in ONE_WORDS:
        reading.step()
        if reading.word() != "(":
            raise NoTree(reading.place)
        return ("one", word, within(reading))
    if is_name(word):
        return name_or_call(reading)
    return plain_item(reading)


def plain_item(reading):
    """Read a number or a truth."""
    word = reading.word()
    if word == "true" or word == "false":
        reading.step()
        return ("truth", word == "true")
    if not is_number_word(word):
        raise NoTree(reading.place)
    reading.step()
    return ("number", int(word))


def within(reading):
    """Read an E with the round brackets around it."""
    reading.enter()
    inner = expression(reading)
    reading.expect(")")
    reading.leave()
    return inner


def name_or_call(reading):
    """Read a NAME, or a call."""
    name = reading.word()
    reading.step()
    if reading.word() == "(":
        return ("call", name, parts(reading, ")"))
    # Without a bracket behind it the NAME must stand for something here.
    if name not in reading.scope:
        raise NoTree(reading.place)
    return ("name", name)


def parts(reading, closing):
    """Read an opening bracket, E's with commas between, and the closing bracket."""
    reading.enter()
    found = listed(reading, closing, expression)
    reading.leave()
    return found


def listed(reading, closing, read_part):
    """Read what a function reads, with commas between, and the closing bracket."""
    found = []
    if reading.word() != closing:
        found.append(read_part(reading))
        while reading.word() == ",":
            reading.step()
            found.append(read_part(reading))
    reading.expect(closing)
    return tuple(found)
