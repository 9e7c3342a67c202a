"""Machines with little room, which hold a few RESULTS and make the others anew [35]."""

from askorhold.bodies import worked_out
from askorhold.deeds import backward, behind, comes, fits, is_deed, size_of
from askorhold.errors import Cannot, Nothing, Wrong
from askorhold.forms import is_integer
from askorhold.least import least_plan
from askorhold.orders import order_behind, order_known, order_renamed, order_thrown, plan_from
from askorhold.plans import price_of
from askorhold.skeletons import is_skeleton, staying, web_in
from askorhold.trees import is_program
from askorhold.turning import deeds_of
from askorhold.webs import with_known


class Holder:
    """A PROGRAM, a SKELETON and a room, and what is held and known, with its RESULTS, its ORDER and its TAPE."""

    def __init__(self, program, skeleton, room):
        check_parts(program, skeleton)
        if not is_number(room):
            raise Wrong(2)
        self._program = program
        self._skeleton = skeleton
        self._room = room
        self._web = web_in(skeleton)
        self._held = ()
        self._known = ()
        self._results = {}
        self._order = ()
        self._tape = ()

    def program(self):
        """Return the PROGRAM."""
        return self._program

    def skeleton(self):
        """Return the SKELETON."""
        return self._skeleton

    def room(self):
        """Return the room."""
        return self._room

    def held(self):
        """Return the LOT of NODES that are held."""
        return self._held

    def known(self):
        """Return the LOT of NODES that are known to be right."""
        return self._known

    def order(self):
        """Return the ORDER of what is held."""
        return self._order

    def tape(self):
        """Return the DEEDS that can be rewound."""
        return self._tape

    def size(self):
        """Return the SIZE of what is held."""
        return size_of(self._web, self._held)

    def do(self, deed):
        """Do a DEED."""
        if not is_deed(self._web, deed):
            raise Wrong(0)
        if not fits(self._web, self._known, self._room, self._held, deed):
            raise Cannot(deed)
        self._order = order_behind(self._web, self._known, self._room, self._order, deed)
        self._tape = () if deed[0] == "throw" else self._tape + (deed,)
        self._hold(deed)

    def show(self, index):
        """Return the RESULT of a NODE that is held or known, or to which what is held COMES."""
        self._check_index(index)
        if not self._shows(index):
            raise Cannot(("show", index))
        return self._result(index)

    def plan(self, index):
        """Return the PLAN for a NODE to which what is held COMES."""
        self._check_index(index)
        if not self._comes(index):
            raise Cannot(("plan", index))
        return plan_from(self._web, self._order, index)

    def know(self, index):
        """Make a NODE that is shown known to be right."""
        self._check_index(index)
        if index in self._known or not self._shows(index):
            raise Cannot(("know", index))
        self._results[index] = self._result(index)
        self._held = tuple([node for node in self._held if node != index])
        self._known = with_known(self._known, (index,))
        self._order = order_known(self._order, (index,))
        self._tape = ()

    def wish(self, index):
        """Return the RESULT of any NODE, and hold behind it what was held ahead of it."""
        deeds = self._way(index, "wish")
        for deed in deeds:
            self._hold(deed)
        result = self._result(index)
        for deed in backward(deeds):
            self._hold(deed)
        return result

    def way_to(self, index):
        """Return the DEEDS that a wish does ahead of working out."""
        return self._way(index, "way")

    def rewind(self, many):
        """Do the contraries of the last DEEDS, and take these off the TAPE."""
        if not is_number(many):
            raise Wrong(0)
        if many > len(self._tape):
            raise Nothing()
        rest = len(self._tape) - many
        tape = self._tape[:rest]
        for deed in backward(self._tape[rest:]):
            self.do(deed)
        self._tape = tape

    def edit(self, program, skeleton):
        """Put another PROGRAM and SKELETON in the place of those that are kept."""
        check_parts(program, skeleton)
        names = staying(self._program, self._skeleton, program, skeleton)
        gone = tuple([node for node in self._held if node not in names])
        self._order = order_renamed(order_thrown(self._order, gone), names)
        self._held = renamed_lot(self._held, names)
        self._known = renamed_lot(self._known, names)
        self._results = {names[node]: self._results[node] for node in self._results if node in names}
        self._program = program
        self._skeleton = skeleton
        self._web = web_in(skeleton)
        self._tape = ()

    def twin(self):
        """Return an independent Holder in the same state."""
        other = Holder(self._program, self._skeleton, self._room)
        other._held = self._held
        other._known = self._known
        other._results = dict(self._results)
        other._order = self._order
        other._tape = self._tape
        return other

    def _check_index(self, index):
        """Raise Wrong if this is no index of a NODE."""
        if not is_number(index) or index >= len(self._web):
            raise Wrong(0)

    def _comes(self, index):
        """Tell whether what is held COMES to a NODE."""
        return comes(self._web, self._known, self._room, self._held, index)

    def _shows(self, index):
        """Tell whether the RESULT of a NODE is kept, or can be worked out as it is."""
        return index in self._results or self._comes(index)

    def _result(self, index):
        """Return the RESULT of a NODE, the one that is kept, or what working out over those that are tells."""
        if index in self._results:
            return self._results[index]
        notes = tuple([(self._skeleton[node][0], self._results[node]) for node in self._results])
        return worked_out(self._program, self._skeleton[index][0], notes)[1]

    def _hold(self, deed):
        """Hold what is held behind a DEED, with its RESULTS; ORDER and TAPE are as they were."""
        word, node = deed
        if word == "put":
            self._results[node] = self._result(node)
        else:
            del self._results[node]
        self._held = behind(self._held, deed)

    def _way(self, index, word):
        """Return the DEEDS ahead of working out a NODE; raise Cannot with a word if the room is too little."""
        self._check_index(index)
        if self._shows(index):
            return ()
        known = with_known(self._known, self._held)
        plan = least_plan(self._web, known, index)
        if price_of(self._web, plan) > self._room - self.size():
            raise Cannot((word, index))
        return deeds_of(self._web, known, index, plan)


def check_parts(program, skeleton):
    """Raise Wrong if these are no PROGRAM and no SKELETON."""
    if not is_program(program):
        raise Wrong(0)
    if not is_skeleton(skeleton):
        raise Wrong(1)


def is_number(thing):
    """Tell whether a thing is an integer from 0 on."""
    return is_integer(thing) and thing >= 0


def renamed_lot(lot, names):
    """Return the LOT of the new names of those of a LOT that have one."""
    return tuple(sorted([names[node] for node in lot if node in names]))
