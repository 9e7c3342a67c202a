"""PLANS as the definitions in [2] say, and PLANS that rows of numbers draw."""

from askorhold.webs import below


def is_plain_plan(web, known, u, thing):
    """The definition of a PLAN, word by word."""
    if type(thing) is not tuple or not thing or type(thing[0]) is not str:
        return False
    if thing[0] == "blame":
        return len(thing) == 2 and type(thing[1]) is int and thing[1] == u and set(web[u][0]) <= set(known)
    if thing[0] != "ask" or len(thing) != 4 or type(thing[1]) is not int:
        return False
    _, x, wrong, right = thing
    if x not in below(web, u) or x in known:
        return False
    return is_plain_plan(web, known, x, wrong) and is_plain_plan(web, tuple(known) + (x,), u, right)


def plain_price(web, plan):
    if plan[0] == "blame":
        return web[plan[1]][2]
    return web[plan[1]][1] + max(plain_price(web, plan[2]), plain_price(web, plan[3]))


def plans(web, known, u, chance):
    """A PLAN that asks any NODES below, OPEN or not, as a row of numbers says."""
    choices = [x for x in below(web, u) if x not in known]
    needs = any(callee not in known for callee in web[u][0])
    if not choices or not needs and chance() % 3:
        return ("blame", u)
    x = choices[chance() % len(choices)]
    return ("ask", x, plans(web, known, x, chance), plans(web, tuple(sorted(known + (x,))), u, chance))


class Numbers:
    """A row of numbers, always the same one for a seed."""

    def __init__(self, seed):
        self.number = seed

    def __call__(self):
        self.number = self.number * 6364136223846793005 + 1442695040888963407 & 2 ** 64 - 1
        return self.number >> 33
