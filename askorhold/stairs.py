"""Room against DEEDS: how many DEEDS at least are needed in which room [29]."""

from askorhold.deeds import may_come, room_to_come
from askorhold.forms import is_integer
from askorhold.rooms import Ground, gone_through, ground_of, is_lot_of
from askorhold.webs import open_below


def staircase(web, known, w):
    """Return the tuples (room, fewest DEEDS in it) of all rooms in which fewer are needed than in each lesser one."""
    ground = ground_of(web, known, w)
    rooms = {}
    stairs = []
    many = 0
    # The LOTS to which so many DEEDS lead in less room than fewer DEEDS do, with this room.
    lesser = {(): 0}
    while lesser:
        rooms.update(lesser)
        ends = [max(lesser[held], room_to_come(web, held, w)) for held in lesser if may_come(web, known, held, w)]
        if ends and (not stairs or min(ends) < stairs[-1][0]):
            stairs.append((min(ends), many))
        lesser = one_deed_on(ground, rooms, lesser)
        many += 1
    return tuple(stairs[::-1])


def one_deed_on(ground, rooms, lesser):
    """Return the rooms of the LOTS to which one DEED more leads in less room than all rows up to now."""
    further = {}
    for held in lesser:
        for needed, _, lot in ground.steps(held):
            room = max(lesser[held], needed)
            if (lot not in rooms or room < rooms[lot]) and (lot not in further or room < further[lot]):
                further[lot] = room
    return further


def distances(web, known, w, k):
    """Return the dict from all LOTS that rows of DEEDS of OPEN NODES lead to in k to the fewest of them that do."""
    ways = gone_through(ground_of(web, known, w), k)
    far = {(): 0}
    for lot in ways:
        if lot:
            far[lot] = far[ways[lot][0]] + 1
    return {lot: far[lot] for lot in sorted(far)}


def are_distances(web, known, w, k, many, thing):
    """Tell whether a thing is DISTANCES of (w, known), k and many."""
    nodes = open_below(web, known, w)
    if type(thing) != dict or not all([is_lot_of(nodes, key) and is_integer(thing[key]) for key in thing]):
        return False
    if () not in thing or thing[()] != 0:
        return False
    ground = Ground(web, known, w, nodes)
    return all([is_far_at(ground, k, many, thing, held) for held in thing])


def is_far_at(ground, k, many, far, held):
    """Tell whether a LOT is far if it COMES to w, and DEEDS lead from it at most one further."""
    if ground.is_end(k, held) and far[held] < many:
        return False
    return all([lot in far and far[lot] <= far[held] + 1 for _, lot in ground.steps_in(k, held)])
