"""ORDERS of what is held, which DEEDS lead along [31], and the PLANS that are made of them [32]."""

from askorhold.deeds import behind
from askorhold.forms import is_integer, is_tuple
from askorhold.plans import is_plan, price_of, pruned
from askorhold.webs import above, below, with_known


def is_order(web, known, k, held, thing):
    """Tell whether a thing is an ORDER of HELD in k."""
    if not is_tuple(thing) or not all([is_place(part) for part in thing]):
        return False
    if sorted([q for q, _ in thing]) != list(held):
        return False
    right_ones = known
    left = k
    for q, plan in thing:
        left = left - web[q][1]
        if not is_plan(web, right_ones, q, plan) or price_of(web, plan) > left:
            return False
        right_ones = with_known(right_ones, (q,))
    return True


def is_place(thing):
    """Tell whether a thing is a tuple of an integer and something else."""
    return is_tuple(thing) and len(thing) == 2 and is_integer(thing[0])


def order_behind(web, known, k, order, deed):
    """Return the ORDER of what is held behind a DEED."""
    word, v = deed
    if word == "put":
        return order + ((v, ("blame", v)),)
    if word == "take":
        order = asking(web, order, v)
    return order_thrown(order, (v,))


def asking(web, order, v):
    """Return an ORDER in which those behind v that it is BELOW ask it, as they can take it for right no more."""
    lower = below(web, v)
    upper = above(web, v)
    asked = []
    # If v is wrong, those BELOW it that are not ahead of q are asked: of them grows the PLAN, from the last one on.
    wrong = ("blame", v)
    is_behind = True
    for q, plan in order[::-1]:
        if q == v:
            is_behind = False
        if is_behind and q in lower:
            wrong = ("ask", q, plan, wrong)
        if is_behind and q in upper:
            plan = ("ask", v, wrong, plan)
        asked.append((q, plan))
    return tuple(asked[::-1])


def order_known(order, lot):
    """Return the ORDER for what is known with a LOT."""
    return tuple([(q, pruned(plan, lot)) for q, plan in order if q not in lot])


def order_thrown(order, lot):
    """Return the ORDER without the NODES of a LOT."""
    return tuple([(q, plan) for q, plan in order if q not in lot])


def order_renamed(order, names):
    """Return the ORDER in which all NODES have other names."""
    return tuple([(names[q], plan_renamed(plan, names)) for q, plan in order])


def plan_renamed(plan, names):
    """Return the PLAN in which all NODES have other names."""
    if plan[0] == "blame":
        return ("blame", names[plan[1]])
    _, x, wrong, right = plan
    return ("ask", names[x], plan_renamed(wrong, names), plan_renamed(right, names))


def plan_from(web, order, w):
    """Return the PLAN for w that asks those of an ORDER that are BELOW it, one after the other."""
    lower = below(web, w)
    plan = ("blame", w)
    for q, wrong in order[::-1]:
        if q in lower:
            plan = ("ask", q, wrong, plan)
    return plan


def led(web, known, k, deeds):
    """Return what is held behind a row of DEEDS, and the ORDER of it that they lead to."""
    held = ()
    order = ()
    for deed in deeds:
        order = order_behind(web, known, k, order, deed)
        held = behind(held, deed)
    return (held, order)


def plan_of_deeds(web, known, k, deeds, w):
    """Return the PLAN for w that is made of the ORDER behind a row of DEEDS."""
    _, order = led(web, known, k, deeds)
    return plan_from(web, order, w)
