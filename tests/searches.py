"""What [38] says of a SEARCH, word by word, and leading a Session through whole ones."""

import random

from askorhold.blame import is_to_blame
from askorhold.books import web_of
from askorhold.facts import fact_of, known_right, known_wrong
from askorhold.least import least_plan, least_price
from askorhold.meanings import right_result
from askorhold.webs import below, open_below, with_known


def snapshot(session):
    """All that a Session tells without being changed."""
    parts = (session.program(), session.facts(), session.book())
    return repr(parts + (session.question(), session.blamed(), session.spent(), session.left()))


def plain_promise(web, known, u):
    nodes = open_below(web, known, u)
    if len(nodes) <= 10:
        return least_price(web, known, u)
    return sum(web[x][1] for x in nodes) + max(web[x][2] for x in nodes + (u,))


def plain_question(web, known, u):
    if all(callee in known for callee in web[u][0]):
        return None
    nodes = open_below(web, known, u)
    if len(nodes) <= 10:
        return least_plan(web, known, u)[1]
    counts = {x: max(len(open_below(web, known, x)), len(open_below(web, with_known(known, (x,)), u))) for x in nodes}
    return [x for x in nodes if counts[x] == min(counts.values())][0]


def begin_of(session, index):
    """The u and the PROMISE of a SEARCH that has just begun at an index."""
    web, known = web_of(session.program(), session.book()), known_right(session.facts(), session.book())
    wrong = [u for u in known_wrong(session.facts(), session.book()) if u == index or u in below(web, index)]
    promises = {u: plain_promise(web, known, u) for u in wrong}
    return [(u, promises[u]) for u in sorted(wrong) if promises[u] == min(promises.values())][0]


def searched(case, session, index, tell):
    """Seek an index, and answer by tell(x) until one is blamed; return it, and how many questions there were."""
    told = session.seek(index)
    u, promise = begin_of(session, index)
    case.assertEqual(told, promise)
    web, book = web_of(session.program(), session.book()), session.book()
    price, before, many = 0, promise, 0
    case.assertEqual(session.spent() + session.left(), promise)
    while True:
        known = known_right(session.facts(), book)
        x = plain_question(web, known, u)
        case.assertEqual(session.question(), x)
        case.assertEqual(session.blamed(), u if x is None else None)
        case.assertEqual(session.spent(), price + (web[u][2] if x is None else 0))
        case.assertEqual(session.left(), 0 if x is None else plain_promise(web, known, u))
        case.assertLessEqual(session.spent() + session.left(), before)
        before = session.spent() + session.left()
        if x is None:
            return u, many
        # Nothing is asked that is told ([10]).
        case.assertIsNone(fact_of(session.facts(), *book[x][:2]))
        facts, answer = session.facts(), tell(x)
        case.assertIsNone(session.answer(answer))
        case.assertEqual(session.facts(), facts + (book[x][:2] + (answer,),))
        price, many = price + web[x][1], many + 1
        u = u if answer else x


def by_meaning(session, meaning):
    """What somebody tells who answers by a MEANING."""
    return lambda x: repr(right_result(meaning, session.book()[x][0], 1000)) == repr(session.book()[x][1])


def by_chance(seed):
    chance = random.Random(seed)
    return lambda x: chance.random() < 0.5


def check_blamed(case, session, meaning, index):
    """Check that an index is wrong, has no wrong callees, and is to blame by its definition ([6])."""
    tell, (call, _, callees) = by_meaning(session, meaning), session.book()[index]
    case.assertFalse(tell(index))
    case.assertTrue(all(tell(callee) for callee in callees))
    case.assertTrue(is_to_blame(session.program(), meaning, call, 1000))
