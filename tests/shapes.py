"""WEBS that several tests go over."""

import itertools
import random

from askorhold.errors import TooMany


def web_of_callees(rows, prices=(1,), readings=(0,)):
    """The WEB with these callees, prices and readings being taken in turn."""
    return tuple((tuple(row), prices[at % len(prices)], readings[at % len(readings)]) for at, row in enumerate(rows))


def line(many):
    return [()] + [(at,) for at in range(many - 1)]


def star(many):
    return [()] * (many - 1) + [tuple(range(many - 1))]


def full(many):
    return [tuple(range(at)) for at in range(many)]


TREE = [(), (), (0, 1), (), (), (3, 4), (2, 5)]
# Levels of which each NODE calls all of the level below it.
LEVELS = [(), (), (0, 1), (0, 1), (2, 3), (2, 3), (4, 5)]
SHARED = [(), (0,), (0,), (1, 2), (0, 3), (2, 4), (3, 5)]
SQUARES = [(), (), (0, 1), (1,), (2, 3), (2,), (4, 5)]
LONG = [(), (0,), (0, 1), (1, 2), (2, 3), (3, 4), (4, 5)]
APART = [(), (), (0,), (), (2, 3), (1,), (4,)]
ROWS = [line(1), line(2), line(4), line(7), star(2), star(5), star(7), full(6), TREE, LEVELS, SHARED, SQUARES, LONG, APART]
WEBS = tuple(
    web_of_callees(rows, prices, readings)
    for rows in ROWS for prices, readings in (((1,), (0,)), ((2, 1, 4, 1, 3), (0, 2, 0, 1)), ((1, 3, 1), (5, 0, 0, 3)))
)


def lots(nodes):
    """All LOTS of some NODES."""
    for size in range(len(nodes) + 1):
        yield from itertools.combinations(nodes, size)


def chance_webs(seed, many, most):
    """WEBS of up to most NODES, with LOTS that are known, always the same ones for a seed; the last NODE is not known."""
    chance = random.Random(seed)
    for _ in range(many):
        size = chance.randint(1, most)
        web = []
        for at in range(size):
            callees = chance.sample(range(at), min(at, chance.randint(0, 3)))
            web.append((tuple(sorted(callees)), chance.randint(1, 4), chance.choice((0, 0, 1, 5))))
        known = tuple(at for at in range(size - 1) if chance.random() < 0.2)
        yield tuple(web), known


def many_open():
    """Tuples (web, known, w, whether more than 10 NODES are OPEN below w)."""
    cases = []
    for rows in (star(12), line(12), full(12)):
        web = web_of_callees(rows, (1, 2), (0, 1))
        cases.extend([(web, (), 11, True), (web, (), 10, False), (web, (4,), 11, False), (web, (0, 1), 11, False)])
    cases.append((web_of_callees(star(11)), (), 10, False))
    # 58 are below, but only 10, or 11, are OPEN.
    web = web_of_callees(line(60), (1, 3), (2, 0))
    return cases + [(web, (48,), 59, False), (web, (47,), 59, True)]


def check_too_many(case, dos):
    """Check that each function raises TooMany(10) for a web, known and w just where more than 10 NODES are OPEN."""
    for web, known, w, is_too_many in many_open():
        for do in dos:
            if is_too_many:
                with case.assertRaises(TooMany) as caught:
                    do(web, known, w)
                case.assertEqual(caught.exception.most, 10)
            else:
                do(web, known, w)


CASES = [(web, ()) for web in WEBS] + list(chance_webs(1, 150, 7))
