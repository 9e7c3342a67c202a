"""SKELETONS: BOOKS without their RESULTS, and what stays in them over an edit [34]."""

from askorhold.books import web_of
from askorhold.forms import are_alike_calls, is_call, is_tuple, marks_of
from askorhold.trees import changed_names
from askorhold.webs import all_below, is_node


def is_skeleton(thing):
    """Tell whether a thing is a SKELETON."""
    if not is_tuple(thing) or not thing:
        return False
    if not all([is_called_node(index, part) for index, part in enumerate(thing)]):
        return False
    return len(set([marks_of(part[0]) for part in thing])) == len(thing)


def is_called_node(index, thing):
    """Tell whether a thing is a CALL with a NODE that may have this index behind it."""
    return is_tuple(thing) and len(thing) == 4 and is_call(thing[0]) and is_node(index, thing[1:])


def skeleton_of(program, book):
    """Return the SKELETON of a BOOK."""
    return tuple([(entry[0],) + node for entry, node in zip(book, web_of(program, book))])


def web_in(skeleton):
    """Return the WEB of a SKELETON."""
    return tuple([part[1:] for part in skeleton])


def index_in(skeleton, call):
    """Return the index of a CALL in a SKELETON, None if it is not there."""
    for index, part in enumerate(skeleton):
        if are_alike_calls(part[0], call):
            return index
    return None


def staying(program, skeleton, other, later):
    """Return the dict from all indexes that STAY to those of the ALIKE CALLS in the later SKELETON."""
    changed = changed_names(program, other)
    lowers = all_below(web_in(skeleton))
    places = {marks_of(part[0]): index for index, part in enumerate(later)}
    stay = {}
    for index, part in enumerate(skeleton):
        marks = marks_of(part[0])
        names = [skeleton[node][0][0] for node in [index] + list(lowers[index])]
        if marks in places and not any([name in changed for name in names]):
            stay[index] = places[marks]
    return stay
