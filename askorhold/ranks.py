"""TREES of calls: RANKS of EDGES, which are PLANS in short [33]."""

from askorhold.forms import is_integer, is_tuple
from askorhold.plans import price_of
from askorhold.webs import open_below, with_known


def is_tree(web):
    """Tell whether a WEB is a TREE."""
    if not all([price == 1 and reading == 0 for _, price, reading in web]):
        return False
    return sorted([callee for node in web for callee in node[0]]) == list(range(len(web) - 1))


def is_ranks(web, thing):
    """Tell whether a thing is RANKS of a TREE."""
    if not is_tuple(thing) or len(thing) != len(web) - 1:
        return False
    if not all([is_integer(rank) and rank >= 1 for rank in thing]):
        return False
    seen = []
    for node in web:
        ranks = [rank for callee in node[0] for rank in seen_through(thing[callee], seen[callee])]
        if len(set(ranks)) != len(ranks):
            return False
        seen.append(ranks)
    return True


def seen_through(rank, ranks):
    """Return the ranks that are SEEN from above an EDGE with a rank, if these are SEEN from below it."""
    return [rank] + [other for other in ranks if other >= rank]


def least_ranks(web):
    """Return RANKS the greatest of which is as little as can be."""
    found = {}
    seen = []
    for node in web:
        callees = node[0]
        ranks = least_above([seen[callee] for callee in callees])
        found.update(dict(zip(callees, ranks)))
        through = [seen_through(found[callee], seen[callee]) for callee in callees]
        seen.append(sorted([rank for ranks_seen in through for rank in ranks_seen], reverse=True))
    return tuple([found[node] for node in range(len(web) - 1)])


def least_above(seens):
    """Return the ranks of the EDGES of callees such that the greatest ones that are SEEN are as little as can be.

    For each callee it is told which ranks are SEEN from it, the greatest one first.
    """
    greatest = max([rank for seen in seens for rank in seen], default=0)
    free = list(range(greatest + len(seens), 0, -1))
    for rank in list(free):
        fewer = [other for other in free if other != rank]
        if ranks_within(fewer, seens) is not None:
            free = fewer
    return ranks_within(free, seens)


def ranks_within(free, seens):
    """Return ranks of the EDGES of callees, all free ones, such that none is SEEN twice; None if there are none."""
    found = {}
    waiting = {at: tuple(seen) for at, seen in enumerate(seens)}
    greatest = max([rank for seen in seens for rank in seen] + free, default=0)
    for rank in range(greatest, 0, -1):
        having = [at for at in waiting if waiting[at][:1] == (rank,)]
        if len(having) > 1:
            return None
        if having:
            waiting[having[0]] = waiting[having[0]][1:]
        elif waiting and rank in free:
            # Who has the greatest ranks left has the least choice further down.
            _, hardest = max([(seen, at) for at, seen in waiting.items()])
            found[hardest] = rank
            del waiting[hardest]
    if waiting:
        return None
    return [found[at] for at in range(len(seens))]


def least_rank(web):
    """Return the greatest rank of RANKS in which it is as little as can be."""
    return max(least_ranks(web), default=0)


def plan_of_ranks(web, ranks):
    """Return the PLAN that always asks the NODE with the greatest rank of those that can still be to blame."""
    return plan_below(web, ranks, (), len(web) - 1)


def plan_below(web, ranks, known, u):
    """Return the PLAN of RANKS for the STATE (u, known)."""
    nodes = open_below(web, known, u)
    if not nodes:
        return ("blame", u)
    _, x = max([(ranks[node], node) for node in nodes])
    return ("ask", x, plan_below(web, ranks, known, x), plan_below(web, ranks, with_known(known, (x,)), u))


def ranks_of_plan(web, plan):
    """Return the RANKS in which each NODE has the PRICE of the part of a PLAN that asks it first."""
    found = {}
    waiting = [plan]
    while waiting:
        part = waiting.pop()
        if part[0] == "ask":
            found[part[1]] = price_of(web, part)
            waiting.extend(part[2:])
    return tuple([found[node] for node in range(len(web) - 1)])
