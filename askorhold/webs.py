"""WEBS of calls: what is below and above, and what is known [23]."""

from askorhold.forms import is_integer, is_lot, is_tuple


def is_web(thing):
    """Tell whether a thing is a WEB."""
    if not is_tuple(thing) or not thing:
        return False
    return all([is_node(index, part) for index, part in enumerate(thing)])


def is_node(index, thing):
    """Tell whether a thing is a NODE that may have this index."""
    if not is_tuple(thing) or len(thing) != 3:
        return False
    callees, price, reading = thing
    if not is_lot_below(index, callees):
        return False
    return is_integer(price) and price >= 1 and is_integer(reading) and reading >= 0


def is_lot_below(many, thing):
    """Tell whether a thing is a LOT of integers less than many."""
    return is_lot(thing) and (not thing or thing[-1] < many)


def is_known(web, thing):
    """Tell whether a thing is a LOT of NODES of a WEB."""
    return is_lot_below(len(web), thing)


def below(web, u):
    """Return the LOT of all NODES BELOW u."""
    return open_below(web, (), u)


def all_below(web):
    """Return a list that has for each NODE a dict of all NODES BELOW it."""
    found = []
    for node in web:
        lower = {}
        for callee in node[0]:
            lower[callee] = True
            lower.update(found[callee])
        found.append(lower)
    return found


def above(web, v):
    """Return the LOT of all NODES that v is BELOW."""
    is_above = [False] * len(web)
    is_above[v] = True
    for index in range(v + 1, len(web)):
        is_above[index] = any([is_above[callee] for callee in web[index][0]])
    return tuple([index for index in range(v + 1, len(web)) if is_above[index]])


def open_below(web, known, u):
    """Return the LOT of the OPEN NODES, those that are come to from u without going through known ones."""
    come_to = [False] * u
    come_from(web, known, u, come_to)
    # Callees are lesser, so all that come to a NODE are done when its turn comes.
    for index in reversed(range(u)):
        if come_to[index]:
            come_from(web, known, index, come_to)
    return tuple([index for index in range(u) if come_to[index]])


def come_from(web, known, u, come_to):
    """Mark the callees of u that are not known as come to."""
    for callee in web[u][0]:
        if callee not in known:
            come_to[callee] = True


def with_known(known, lot):
    """Return the LOT of all that are in one of two LOTS."""
    return tuple(sorted(set(known + lot)))


def shadow(web, known, u):
    """Return the LOT of those of known that are BELOW u."""
    lower = below(web, u)
    return tuple([node for node in known if node in lower])
