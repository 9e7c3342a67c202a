"""Going from what is held to what is held, as the definitions in [2] say, and rows of DEEDS."""

import random

from askorhold.deeds import behind, comes, fits
from askorhold.webs import below

WORDS = ("put", "take", "throw")


def plain_may(web, known, held, deed):
    """The definition of the DEEDS, word by word."""
    word, v = deed
    ready = set(web[v][0]) <= set(held) | set(known)
    if word == "put":
        return ready and v not in held and v not in known
    if word == "take":
        return v in held and ready
    return v in held and not any(v in below(web, u) for u in held)


def plain_room(web, held, deed):
    size = sum(web[v][1] for v in held)
    return {"put": size + web[deed[1]][1] + web[deed[1]][2], "take": size + web[deed[1]][2], "throw": 0}[deed[0]]


def rows_of(seed, web, known, k, many, words=WORDS):
    """A row of DEEDS that can be done, and FIT k."""
    chance = random.Random(seed)
    held, row = set(), []
    for _ in range(many):
        deeds = [(word, v) for word in words for v in range(len(web))]
        deeds = [deed for deed in deeds if plain_may(web, known, held, deed) and plain_room(web, held, deed) <= k]
        if not deeds:
            break
        row.append(chance.choice(deeds))
        held ^= {row[-1][1]}
    return tuple(row), tuple(sorted(held))


def levels(web, known, k, nodes):
    """The LOTS that rows of DEEDS of some NODES lead to in k, a list for each number of DEEDS."""
    seen, level = {()}, [()]
    while level:
        yield level
        found = set()
        for held in level:
            for deed in [(word, v) for word in WORDS for v in nodes]:
                if fits(web, known, k, held, deed):
                    found.add(behind(held, deed))
        level = sorted(found - seen)
        seen |= found


def plain_fewest(web, known, w, k, nodes):
    """How many DEEDS at least a row has that COMES to w in k, None if none does."""
    for many, level in enumerate(levels(web, known, k, nodes)):
        if any(comes(web, known, k, held, w) for held in level):
            return many
    return None
