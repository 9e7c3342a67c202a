"""The least rooms in which rows of DEEDS come to a NODE, and closed lots, which show that none does [28]."""

from heapq import heappop, heappush

from askorhold.deeds import behind, comes, may_come, room_for, room_to_come, words_for
from askorhold.forms import is_lot, is_tuple
from askorhold.least import few_open
from askorhold.webs import above, open_below


class Ground:
    """The DEEDS of the OPEN NODES below w, which lead from LOT to LOT."""

    def __init__(self, web, known, w, nodes):
        self.web = web
        self.known = known
        self.w = w
        self.nodes = nodes
        self.uppers = {v: above(web, v) for v in nodes}

    def steps(self, held):
        """Return the tuples (least room, DEED, LOT behind it) of all DEEDS that can be done."""
        found = []
        for v in self.nodes:
            for word in words_for(self.web, self.known, held, v, self.uppers[v]):
                deed = (word, v)
                found.append((room_for(self.web, held, deed), deed, behind(held, deed)))
        return found

    def is_end(self, k, held):
        """Tell whether what is held COMES to w in k."""
        return comes(self.web, self.known, k, held, self.w)

    def steps_in(self, k, held):
        """Return the tuples (DEED, LOT behind it) of all DEEDS that can be done, and FIT k."""
        return [(deed, lot) for room, deed, lot in self.steps(held) if room <= k]


def ground_of(web, known, w):
    """Return the Ground of all OPEN NODES below w; raise TooMany if they are more than ten."""
    return Ground(web, known, w, few_open(web, known, w))


def least_room(web, known, w):
    """Return the least room in which some row of DEEDS COMES to w."""
    rooms = rooms_to(ground_of(web, known, w))
    ends = [held for held in rooms if may_come(web, known, held, w)]
    return min([max(rooms[held], room_to_come(web, held, w)) for held in ends])


def rooms_to(ground):
    """Return the dict from LOTS to the least rooms in which rows of DEEDS lead to them."""
    rooms = {}
    waiting = [(0, ())]
    while waiting:
        room, held = heappop(waiting)
        if held not in rooms:
            rooms[held] = room
            for needed, _, lot in ground.steps(held):
                heappush(waiting, (max(room, needed), lot))
    return rooms


def gone_through(ground, k):
    """Go from LOT to LOT by all DEEDS that FIT k, the nearest ones first.

    Return the dict from the LOTS, in this order, to the tuples (LOT ahead, DEED).
    """
    ways = {(): ((), None)}
    nearest = [()]
    while nearest:
        next_ones = []
        for held in nearest:
            for deed, lot in ground.steps_in(k, held):
                if lot not in ways:
                    ways[lot] = (held, deed)
                    next_ones.append(lot)
        nearest = next_ones
    return ways


def ends_of(ground, k, ways):
    """Return the LOTS that were gone through and COME to w in k, the nearest ones first."""
    return [held for held in ways if ground.is_end(k, held)]


def fewest_deeds(web, known, w, k):
    """Return a row with as few DEEDS as can be that COMES to w in k, None if there is none."""
    ground = ground_of(web, known, w)
    ways = gone_through(ground, k)
    ends = ends_of(ground, k, ways)
    if not ends:
        return None
    held = ends[0]
    deeds = []
    while held:
        held, deed = ways[held]
        deeds.append(deed)
    return tuple(deeds[::-1])


def closed_lot(web, known, w, k):
    """Return the CLOSED LOT of all LOTS to which rows of DEEDS lead in k, None if some row COMES to w."""
    ground = ground_of(web, known, w)
    ways = gone_through(ground, k)
    if ends_of(ground, k, ways):
        return None
    return tuple(sorted(ways))


def is_closed_lot(web, known, w, k, thing):
    """Tell whether a thing is a CLOSED LOT of (w, known) and k."""
    nodes = open_below(web, known, w)
    if not is_tuple(thing) or not all([is_lot_of(nodes, lot) for lot in thing]):
        return False
    lots = {lot: True for lot in thing}
    if () not in lots or list(thing) != sorted(lots):
        return False
    ground = Ground(web, known, w, nodes)
    return all([is_closed_at(ground, k, lots, held) for held in thing])


def is_lot_of(nodes, thing):
    """Tell whether a thing is a LOT of some NODES."""
    return is_lot(thing) and all([node in nodes for node in thing])


def is_closed_at(ground, k, lots, held):
    """Tell whether a LOT does not COME to w in k, and each DEED that FITS k leads to one of the lots."""
    return not ground.is_end(k, held) and all([lot in lots for _, lot in ground.steps_in(k, held)])
