"""The least PRICES of PLANS, and tables that show them [25]."""

from askorhold.errors import TooMany
from askorhold.forms import is_integer, is_tuple
from askorhold.webs import all_below, is_lot_below, open_below, shadow, with_known

MOST_OPEN = 10


class Prices:
    """The least PRICES of STATES of a WEB, each worked out once."""

    def __init__(self, web):
        self.web = web
        self.lowers = all_below(web)
        self.least = {}

    def questions(self, state):
        """Return the questions of a STATE."""
        return questions_of(self.web, self.lowers, state)

    def price(self, state):
        """Return the least PRICE of a STATE, and keep it, and those of all STATES that it leads to."""
        if state not in self.least:
            prices = [self.price_asking(question) for question in self.questions(state)]
            self.least[state] = min(prices, default=self.web[state[0]][2])
        return self.least[state]

    def price_asking(self, question):
        """Return the least PRICE if this is asked first."""
        x, wrong, right = question
        return self.web[x][1] + max(self.price(wrong), self.price(right))

    def plan(self, state):
        """Return a PLAN that has the least PRICE of a STATE."""
        for question in self.questions(state):
            if self.price_asking(question) == self.price(state):
                x, wrong, right = question
                return ("ask", x, self.plan(wrong), self.plan(right))
        return ("blame", state[0])


def questions_of(web, lowers, state):
    """Return the tuples (x, STATE if x is wrong, STATE if x is right), one for each OPEN x."""
    u, lot = state
    return [(x, if_wrong(lowers, lot, x), (u, with_known(lot, (x,)))) for x in open_below(web, lot, u)]


def if_wrong(lowers, lot, x):
    """Return the STATE in which x is wrong, with what of a LOT matters then."""
    return (x, tuple([node for node in lot if node in lowers[x]]))


def few_open(web, known, w):
    """Return the LOT of OPEN NODES; raise TooMany if they are more than ten."""
    lot = open_below(web, known, w)
    if len(lot) > MOST_OPEN:
        raise TooMany(MOST_OPEN)
    return lot


def first_state(web, known, w):
    """Return the STATE of w with those of known that matter."""
    return (w, shadow(web, known, w))


def least_price(web, known, w):
    """Return the least PRICE of all PLANS for (w, known)."""
    few_open(web, known, w)
    return Prices(web).price(first_state(web, known, w))


def least_plan(web, known, w):
    """Return a PLAN for (w, known) that has the least PRICE."""
    few_open(web, known, w)
    return Prices(web).plan(first_state(web, known, w))


def price_table(web, known, w):
    """Return a TABLE of (w, known)."""
    few_open(web, known, w)
    prices = Prices(web)
    prices.price(first_state(web, known, w))
    return {state: prices.least[state] for state in sorted(prices.least)}


def is_table(web, known, w, thing):
    """Tell whether a thing is a TABLE of (w, known)."""
    if type(thing) != dict:
        return False
    lowers = all_below(web)
    if not all([is_state(lowers, key) and is_integer(thing[key]) for key in thing]):
        return False
    return first_state(web, known, w) in thing and all([is_least(web, lowers, thing, state) for state in thing])


def is_state(lowers, thing):
    """Tell whether a thing is a STATE with a LOT of NODES BELOW it."""
    if not is_tuple(thing) or len(thing) != 2:
        return False
    u, lot = thing
    if not is_integer(u) or not 0 <= u < len(lowers) or not is_lot_below(u, lot):
        return False
    return all([node in lowers[u] for node in lot])


def is_least(web, lowers, table, state):
    """Tell whether a TABLE has for a STATE the least of what it has for all that this leads to."""
    questions = questions_of(web, lowers, state)
    if not questions:
        return table[state] == web[state[0]][2]
    if not all([wrong in table and right in table for _, wrong, right in questions]):
        return False
    prices = [web[x][1] + max(table[wrong], table[right]) for x, wrong, right in questions]
    return table[state] == min(prices)
