"""The desk: a Session and a Holder, led by lines [39]."""

from askorhold.booktexts import read_call, show_book, show_call, show_result
from askorhold.deeds import WORDS
from askorhold.errors import NoCommand, NoTree, Nothing, TooMany, Wrong
from askorhold.forms import is_string
from askorhold.holder import Holder
from askorhold.plans import price_of
from askorhold.reader import is_number_word, read_function, read_program, words_of
from askorhold.session import Session
from askorhold.shower import show_program
from askorhold.skeletons import skeleton_of, web_in


def book_text(session):
    """Return the text of the BOOK."""
    if not session.book():
        return "none"
    return show_book(session.book())


def program_text(session):
    """Return the text of the PROGRAM."""
    return show_program(session.program())


def question_text(session):
    """Return what is asked next, or who is blamed."""
    index = session.question()
    if index is not None:
        call, result, _ = session.book()[index]
        return f"ask {index} : {show_call(call)} = {show_result(result)}"
    index = session.blamed()
    if index is not None:
        return f"blamed {index} : {show_call(session.book()[index][0])}"
    return "none"


def answered_right(session):
    """Answer that the RESULT is right, and return what is asked next."""
    session.answer(True)
    return question_text(session)


def answered_wrong(session):
    """Answer that the RESULT is wrong, and return what is asked next."""
    session.answer(False)
    return question_text(session)


def spent_text(session):
    """Return what the questions cost, and what those that are left cost at most."""
    return f"spent {session.spent()} left {session.left()}"


def held_text(holder):
    """Return what a Holder holds and knows."""
    words = ["held"] + [str(node) for node in holder.held()]
    words.extend(["size", str(holder.size()), "room", str(holder.room()), "known"])
    return " ".join(words + [str(node) for node in holder.known()])


def know_done(holder, index):
    """Make a NODE known, and return what is held."""
    holder.know(index)
    return held_text(holder)


def rewind_done(holder, many):
    """Rewind DEEDS, and return what is held."""
    holder.rewind(many)
    return held_text(holder)


def shown_text(holder, index):
    """Return the text of the RESULT of a NODE."""
    return show_result(holder.show(index))


def wished_text(holder, index):
    """Return the text of the RESULT that is wished."""
    return show_result(holder.wish(index))


def price_text(holder, index):
    """Return the PRICE of the PLAN for a NODE."""
    return f"price {price_of(web_in(holder.skeleton()), holder.plan(index))}"


SESSION_LINES = {
    "book": book_text, "program": program_text, "question": question_text, "right": answered_right,
    "wrong": answered_wrong, "spent": spent_text,
}
HOLDER_LINES = {
    "know": know_done, "rewind": rewind_done, "show": shown_text, "wish": wished_text, "plan": price_text,
}


class Desk:
    """A Session, and perhaps a Holder, which do what lines say."""

    def __init__(self, text):
        self._session = Session(read_program(text))
        self._holder = None

    def execute(self, line):
        """Do what a line says, and return what it tells."""
        if not is_string(line):
            raise Wrong(0)
        words = words_of(line)
        if words[:1] == ["fun"]:
            return self._edited(line)
        if words[:1] == ["run"]:
            return self._run(line, words[1:])
        if len(words) == 1:
            return self._done(line, words[0])
        if len(words) == 2 and is_number_word(words[1]):
            return self._done_with(line, words[0], int(words[1]))
        raise NoCommand(line)

    def session(self):
        """Return an independent Session in the state of the desk's."""
        return self._session.twin()

    def holder(self):
        """Return the twin of the Holder, None if there is none."""
        if self._holder is None:
            return None
        return self._holder.twin()

    def _edited(self, line):
        """Edit the FUNCTION that a line shows."""
        try:
            function = read_function(line)
        except (NoTree, TooMany):
            raise NoCommand(line)
        self._session.edit(function)
        return f"edited {function[0]}"

    def _run(self, line, words):
        """Run the CALL that the words of a line show, and lead the Holder on."""
        try:
            name, values = read_call(" ".join(words))
        except (NoTree, TooMany):
            raise NoCommand(line)
        result = self._session.run(name, values)
        if self._holder is not None:
            self._holder.edit(self._session.program(), self._skeleton())
        return show_result(result)

    def _done(self, line, word):
        """Do what a line of one word says."""
        if word in SESSION_LINES:
            action = SESSION_LINES[word]
            return action(self._session)
        if word == "undo":
            self._session.undo()
            self._holder = None
            return "undone"
        if word == "held":
            return held_text(self._opened())
        raise NoCommand(line)

    def _done_with(self, line, word, number):
        """Do what a line of a word and a number says."""
        if word in WORDS:
            self._opened().do((word, number))
            return held_text(self._holder)
        if word in HOLDER_LINES:
            action = HOLDER_LINES[word]
            return action(self._opened(), number)
        if word == "seek":
            return f"promise {self._session.seek(number)}"
        if word != "open":
            raise NoCommand(line)
        if not self._session.book():
            raise Nothing()
        self._holder = Holder(self._session.program(), self._skeleton(), number)
        return f"open {number}"

    def _opened(self):
        """Return the Holder; raise Nothing if there is none."""
        if self._holder is None:
            raise Nothing()
        return self._holder

    def _skeleton(self):
        """Return the SKELETON of the BOOK."""
        return skeleton_of(self._session.program(), self._session.book())
