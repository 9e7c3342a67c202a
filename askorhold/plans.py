"""PLANS: what is asked, and what then, until one is to blame [24]."""

from askorhold.forms import is_integer, is_tuple
from askorhold.webs import all_below, open_below, with_known


def is_plan(web, known, w, thing):
    """Tell whether a thing is a PLAN for the STATE (w, known)."""
    lowers = all_below(web)
    waiting = [(w, known, thing)]
    while waiting:
        u, right_ones, part = waiting.pop()
        if is_question(part):
            _, x, wrong, right = part
            if x not in lowers[u] or x in right_ones:
                return False
            waiting.append((x, right_ones, wrong))
            waiting.append((u, with_known(right_ones, (x,)), right))
        elif not is_blame(part) or part[1] != u or not all([callee in right_ones for callee in web[u][0]]):
            return False
    return True


def is_question(thing):
    """Tell whether a thing asks an integer, whatever it does then."""
    return is_tuple(thing) and len(thing) == 4 and thing[0] == "ask" and is_integer(thing[1])


def is_blame(thing):
    """Tell whether a thing blames an integer."""
    return is_tuple(thing) and len(thing) == 2 and thing[0] == "blame" and is_integer(thing[1])


def price_of(web, plan):
    """Return the PRICE of a PLAN."""
    price = 0
    waiting = [(plan, 0)]
    while waiting:
        part, spent = waiting.pop()
        if part[0] == "blame":
            price = max(price, spent + web[part[1]][2])
        else:
            _, x, wrong, right = part
            waiting.append((wrong, spent + web[x][1]))
            waiting.append((right, spent + web[x][1]))
    return price


def followed(plan, wrong):
    """Return the NODE that a PLAN blames if those of a LOT are wrong, and the tuple of those that it asks."""
    asked = []
    part = plan
    while part[0] == "ask":
        _, x, if_wrong, if_right = part
        asked.append(x)
        part = if_wrong if x in wrong else if_right
    return (part[1], tuple(asked))


def pruned(plan, lot):
    """Return the PLAN in which none of a LOT is asked, but taken for right."""
    if plan[0] == "blame":
        return plan
    _, x, wrong, right = plan
    if x in lot:
        return pruned(right, lot)
    return ("ask", x, pruned(wrong, lot), pruned(right, lot))


def plain_plan(web, known, w):
    """Return the PLAN that always asks the least OPEN NODE."""
    plan = ("blame", w)
    # The least OPEN one calls known ones alone: if it is wrong, it is to blame; if not, it is all that becomes known.
    for x in open_below(web, known, w)[::-1]:
        plan = ("ask", x, ("blame", x), plan)
    return plan
