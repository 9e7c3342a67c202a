"""ANSWERERS, which show that no PLAN has a PRICE of at most k [26]."""

from askorhold.forms import is_integer, is_tuple
from askorhold.least import Prices, few_open, first_state, if_wrong, is_state, questions_of
from askorhold.webs import all_below, with_known


def answerer(web, known, w, k):
    """Return an ANSWERER of (w, known) for k, None if some PLAN has a PRICE of at most k."""
    few_open(web, known, w)
    prices = Prices(web)
    start = first_state(web, known, w)
    if prices.price(start) <= k:
        return None
    table = {}
    waiting = [start + (k,)]
    while waiting:
        key = waiting.pop()
        if key not in table:
            answers = answers_at(prices, key)
            table[key] = {x: is_right for x, is_right, _ in answers}
            waiting.extend([later for _, _, later in answers])
    return {key: table[key] for key in sorted(table)}


def answers_at(prices, key):
    """Return the tuples (x, answer, key behind it) for all x that are not too dear."""
    u, lot, left = key
    answers = []
    for x, wrong, right in prices.questions((u, lot)):
        rest = left - prices.web[x][1]
        if rest >= 0:
            # The least PRICE of the key is above what is left, so that of one of both is above the rest.
            is_right = prices.price(right) > rest
            answers.append((x, is_right, (right if is_right else wrong) + (rest,)))
    return answers


def is_answerer(web, known, w, k, thing):
    """Tell whether a thing is an ANSWERER of (w, known) for k."""
    if type(thing) != dict:
        return False
    lowers = all_below(web)
    if not all([is_key(lowers, key) and are_answers(thing[key]) for key in thing]):
        return False
    if first_state(web, known, w) + (k,) not in thing:
        return False
    return all([is_answering(web, lowers, thing, key) for key in thing])


def is_key(lowers, thing):
    """Tell whether a thing is a STATE with an integer from 0 on behind it."""
    if not is_tuple(thing) or len(thing) != 3 or not is_state(lowers, thing[:2]):
        return False
    return is_integer(thing[2]) and thing[2] >= 0


def are_answers(thing):
    """Tell whether a thing is a dict from integers to truths."""
    return type(thing) == dict and all([is_integer(x) and isinstance(thing[x], bool) for x in thing])


def is_answering(web, lowers, table, key):
    """Tell whether at a key nothing can be blamed, and each answer that is wanted leads to a key."""
    u, lot, left = key
    questions = questions_of(web, lowers, (u, lot))
    if not questions:
        return web[u][2] > left
    for x, wrong, right in questions:
        rest = left - web[x][1]
        if rest >= 0:
            if x not in table[key] or (right if table[key][x] else wrong) + (rest,) not in table:
                return False
    return True


def asked_of(web, known, w, k, table, asked):
    """Return the answers of an ANSWERER to NODES that are asked one behind the other."""
    lowers = all_below(web)
    u, lot = first_state(web, known, w)
    left = k
    told = []
    for x in asked:
        is_right = table[(u, lot, left)][x]
        told.append(is_right)
        left = left - web[x][1]
        if is_right:
            lot = with_known(lot, (x,))
        else:
            u, lot = if_wrong(lowers, lot, x)
    return tuple(told)
