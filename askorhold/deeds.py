"""DEEDS: what is put, taken and thrown, and the room that it needs [27]."""

from askorhold.forms import is_integer, is_tuple
from askorhold.webs import above, with_known

WORDS = ("put", "take", "throw")


def size_of(web, held):
    """Return the sum of the prices of what is held."""
    return sum([web[node][1] for node in held])


def is_deed(web, thing):
    """Tell whether a thing is a DEED of a NODE of a WEB."""
    if not is_tuple(thing) or len(thing) != 2:
        return False
    return thing[0] in WORDS and is_integer(thing[1]) and 0 <= thing[1] < len(web)


def is_ready(web, known, held, v):
    """Tell whether all callees of v are held or known."""
    return all([callee in held or callee in known for callee in web[v][0]])


def words_for(web, known, held, v, upper):
    """Return the words of the DEEDS of v that can be done, upper being all NODES that v is BELOW."""
    words = []
    if v not in held:
        if v not in known and is_ready(web, known, held, v):
            words.append("put")
        return words
    if is_ready(web, known, held, v):
        words.append("take")
    if not any([node in upper for node in held]):
        words.append("throw")
    return words


def may_do(web, known, held, deed):
    """Tell whether a DEED can be done, whatever the room."""
    word, v = deed
    return word in words_for(web, known, held, v, above(web, v))


def room_for(web, held, deed):
    """Return the least room that a DEED FITS."""
    word, v = deed
    if word == "throw":
        return 0
    if word == "take":
        return size_of(web, held) + web[v][2]
    return size_of(web, held) + web[v][1] + web[v][2]


def fits(web, known, k, held, deed):
    """Tell whether a DEED can be done, and FITS k."""
    return may_do(web, known, held, deed) and room_for(web, held, deed) <= k


def behind(held, deed):
    """Return the LOT that is held behind a DEED."""
    word, v = deed
    if word == "put":
        return with_known(held, (v,))
    return tuple([node for node in held if node != v])


def may_come(web, known, held, w):
    """Tell whether what is held COMES to w in a room that is great enough."""
    return w not in held and w not in known and is_ready(web, known, held, w)


def room_to_come(web, held, w):
    """Return the least room in which what is held COMES to a w to which it may come."""
    return size_of(web, held) + web[w][2]


def comes(web, known, k, held, w):
    """Tell whether what is held COMES to w in k."""
    return may_come(web, known, held, w) and room_to_come(web, held, w) <= k


def done(web, known, k, deeds):
    """Return what is held behind a row of DEEDS, None if one cannot be done, or does not FIT k."""
    held = ()
    for deed in deeds:
        if not fits(web, known, k, held, deed):
            return None
        held = behind(held, deed)
    return held


def room_needed(web, known, deeds, w):
    """Return the least room in which a row of DEEDS can be done and COMES to w, None if there is none."""
    held = ()
    room = 0
    for deed in deeds:
        if not may_do(web, known, held, deed):
            return None
        room = max(room, room_for(web, held, deed))
        held = behind(held, deed)
    if not may_come(web, known, held, w):
        return None
    return max(room, room_to_come(web, held, w))


def backward(deeds):
    """Return the contraries of puts and takes, the last one first."""
    return tuple([("take" if word == "put" else "put", v) for word, v in deeds[::-1]])
