"""Sessions: running, telling what is wrong, being asked, and editing [37], [38]."""

from askorhold.books import book_of, web_of
from askorhold.errors import Nothing, NothingToAsk, Wrong
from askorhold.facts import known_right, known_wrong, with_fact
from askorhold.forms import is_integer, is_name, is_tuple, is_value
from askorhold.least import MOST_OPEN, least_plan, least_price
from askorhold.trees import is_function, is_program, with_function
from askorhold.webs import below, open_below, with_known

MOST_ENTRIES = 60


class Session:
    """A PROGRAM, FACTS, a BOOK and a SEARCH in it, and all that these were before."""

    def __init__(self, program):
        if not is_program(program):
            raise Wrong(0)
        # Tuples (PROGRAM, FACTS, BOOK, SEARCH), the last one of now. A SEARCH is a tuple (u, those that were asked),
        # None if there is none: what is known in it follows from the FACTS.
        self._states = [(program, (), (), None)]

    def program(self):
        """Return the PROGRAM."""
        return self._states[-1][0]

    def facts(self):
        """Return the FACTS."""
        return self._states[-1][1]

    def book(self):
        """Return the BOOK, () if there is none."""
        return self._states[-1][2]

    def run(self, name, values):
        """Make the BOOK of a CALL the BOOK, and return its RESULT."""
        if not is_name(name):
            raise Wrong(0)
        if not is_tuple(values) or not is_value(values):
            raise Wrong(1)
        book = book_of(self.program(), (name, values), MOST_ENTRIES)
        self._states.append((self.program(), self.facts(), book, None))
        return book[-1][1]

    def edit(self, function):
        """Put a FUNCTION in the place of that with its NAME, or behind all others."""
        if not is_function(function):
            raise Wrong(0)
        self._states.append((with_function(self.program(), function), self.facts(), (), None))

    def undo(self):
        """Take back the last call of run, edit, seek or answer."""
        if len(self._states) == 1:
            raise Nothing()
        self._states.pop()

    def seek(self, index):
        """Begin a SEARCH below an ENTRY that is wrong, and return its PROMISE."""
        book = self.book()
        if not is_integer(index) or not 0 <= index < len(book):
            raise Wrong(0)
        call, result, _ = book[index]
        facts = with_fact(self.facts(), call, result, False)
        web = web_of(self.program(), book)
        known = known_right(facts, book)
        lower = below(web, index) + (index,)
        promises = [(promise_of(web, known, u), u) for u in known_wrong(facts, book) if u in lower]
        promise, u = min(promises)
        self._states.append((self.program(), facts, book, (u, ())))
        return promise

    def question(self):
        """Return the index that is asked next, None if there is none."""
        search = self._search()
        if search is None:
            return None
        return question_of(self._web_of_book(), self._right_ones(), search[0])

    def answer(self, is_right):
        """Make it a fact that the RESULT that is asked is right, or wrong."""
        if not isinstance(is_right, bool):
            raise Wrong(0)
        x = self.question()
        if x is None:
            raise NothingToAsk()
        program, facts, book, search = self._states[-1]
        u, asked = search
        call, result, _ = book[x]
        later = (u if is_right else x, asked + (x,))
        self._states.append((program, with_fact(facts, call, result, is_right), book, later))

    def blamed(self):
        """Return the index that is to blame, None if there is none yet."""
        search = self._search()
        if search is None or open_below(self._web_of_book(), self._right_ones(), search[0]):
            return None
        return search[0]

    def spent(self):
        """Return what the questions of this SEARCH cost up to now."""
        search = self._search()
        if search is None:
            return 0
        web = self._web_of_book()
        price = sum([web[x][1] for x in search[1]])
        blamed = self.blamed()
        if blamed is None:
            return price
        return price + web[blamed][2]

    def left(self):
        """Return what the questions that are left cost at most."""
        search = self._search()
        if search is None or self.blamed() is not None:
            return 0
        return promise_of(self._web_of_book(), self._right_ones(), search[0])

    def twin(self):
        """Return an independent Session in the same state."""
        other = Session(self.program())
        other._states = list(self._states)
        return other

    def _search(self):
        """Return the SEARCH, None if there is none."""
        return self._states[-1][3]

    def _web_of_book(self):
        """Return the WEB of the BOOK."""
        return web_of(self.program(), self.book())

    def _right_ones(self):
        """Return the LOT of all ENTRIES that are known to be right."""
        return known_right(self.facts(), self.book())


def promise_of(web, known, u):
    """Return what it costs at most to find whom to blame."""
    nodes = open_below(web, known, u)
    if len(nodes) <= MOST_OPEN:
        return least_price(web, known, u)
    return sum([web[x][1] for x in nodes]) + max([web[x][2] for x in nodes + (u,)])


def question_of(web, known, u):
    """Return the NODE that is asked next, None if all callees of u are known."""
    nodes = open_below(web, known, u)
    if not nodes:
        return None
    if len(nodes) <= MOST_OPEN:
        return least_plan(web, known, u)[1]
    _, x = min([(many_left(web, known, u, x), x) for x in nodes])
    return x


def many_left(web, known, u, x):
    """Return how many NODES are OPEN at most when x is answered."""
    return max(len(open_below(web, known, x)), len(open_below(web, with_known(known, (x,)), u)))
