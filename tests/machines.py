"""What [35] says of a Holder, word by word, over the plain runs of its CALLS, and going along both."""

import random

from askorhold.errors import AskError, Cannot, Nothing, TooMany, Wrong
from askorhold.deeds import backward
from askorhold.least import least_plan
from askorhold.orders import is_order, order_behind, order_known, order_renamed, order_thrown, plan_from
from askorhold.plans import price_of
from askorhold.runs import result_of
from askorhold.skeletons import staying, web_in
from askorhold.turning import deeds_of
from askorhold.webs import open_below
from steps import WORDS, plain_may, plain_room

STATE = ("program", "skeleton", "room", "held", "known", "order", "tape", "size")


def state_of(holder):
    return tuple(getattr(holder, name)() for name in STATE)


def shown_by(holder):
    """What a Holder shows of each NODE, None where it does not."""
    return [told(holder, "show", index)[1] if told(holder, "show", index)[0] == "returned" else None for index in range(len(holder.skeleton()))]


def told(thing, name, *arguments):
    """How a call of a method ends: what it returns, or the class of its error and the fields of it."""
    try:
        return ("returned", getattr(thing, name)(*arguments))
    except AskError as error:
        return (type(error).__name__, vars(error))


class Model:
    """A Holder whose RESULTS are those of plain runs."""

    def __init__(self, program, skeleton, room):
        self.parts = (program, skeleton, room)
        self.web = web_in(skeleton)
        self.now_held, self.now_known, self.now_order, self.now_tape = (), (), (), ()

    def state(self):
        return self.parts + (self.now_held, self.now_known, self.now_order, self.now_tape, self.sum(self.now_held))

    def sum(self, nodes):
        return sum(self.web[node][1] for node in nodes)

    def right(self, index):
        return result_of(self.parts[0], self.parts[1][index][0], 60)

    def comes(self, index):
        if index in self.now_held + self.now_known or not set(self.web[index][0]) <= set(self.now_held + self.now_known):
            return False
        return self.sum(self.now_held) + self.web[index][2] <= self.parts[2]

    def shows(self, index):
        return index in self.now_held + self.now_known or self.comes(index)

    def do(self, deed):
        if not plain_may(self.web, self.now_known, self.now_held, deed):
            raise Cannot(deed)
        if plain_room(self.web, self.now_held, deed) > self.parts[2]:
            raise Cannot(deed)
        self.now_order = order_behind(self.web, self.now_known, self.parts[2], self.now_order, deed)
        self.now_held = tuple(sorted(set(self.now_held) ^ {deed[1]}))
        self.now_tape = () if deed[0] == "throw" else self.now_tape + (deed,)

    def show(self, index):
        if not self.shows(index):
            raise Cannot(("show", index))
        return self.right(index)

    def plan(self, index):
        if not self.comes(index):
            raise Cannot(("plan", index))
        return plan_from(self.web, self.now_order, index)

    def know(self, index):
        if index in self.now_known or not self.shows(index):
            raise Cannot(("know", index))
        self.now_known = tuple(sorted(self.now_known + (index,)))
        self.now_held = tuple(node for node in self.now_held if node != index)
        self.now_order, self.now_tape = order_known(self.now_order, (index,)), ()

    def wish(self, index):
        self.way("wish", index)
        return self.right(index)

    def way_to(self, index):
        return self.way("way", index)

    def way(self, word, index):
        if self.shows(index):
            return ()
        known = tuple(sorted(self.now_known + self.now_held))
        if len(open_below(self.web, known, index)) > 10:
            raise TooMany(10)
        plan = least_plan(self.web, known, index)
        if price_of(self.web, plan) > self.parts[2] - self.sum(self.now_held):
            raise Cannot((word, index))
        return deeds_of(self.web, known, index, plan)

    def rewind(self, many):
        if many > len(self.now_tape):
            raise Nothing()
        tape = self.now_tape
        for deed in backward(tape)[:many]:
            self.do(deed)
        self.now_tape = tape[:len(tape) - many]

    def edit(self, program, skeleton):
        names = staying(*self.parts[:2], program, skeleton)
        gone = tuple(node for node in self.now_held if node not in names)
        self.now_order = order_renamed(order_thrown(self.now_order, gone), names)
        self.now_held = tuple(sorted(names[node] for node in self.now_held if node in names))
        self.now_known = tuple(sorted(names[node] for node in self.now_known if node in names))
        self.parts = (program, skeleton, self.parts[2])
        self.web, self.now_tape = web_in(skeleton), ()


def check_same(case, holder, model):
    """Check that a Holder is as the Model, keeps to its room and its ORDER, and shows the RESULTS of plain runs ([9])."""
    case.assertEqual(state_of(holder), model.state())
    case.assertLessEqual(holder.size(), holder.room())
    case.assertTrue(is_order(model.web, holder.known(), holder.room(), holder.held(), holder.order()))
    wanted = [model.right(index) if model.shows(index) else None for index in range(len(model.web))]
    case.assertEqual(repr(shown_by(holder)), repr(wanted))


def do_both(case, holder, model, name, *arguments):
    """Call one method of both, and check that they end alike, and that what raised changed nothing."""
    before = state_of(holder)
    wanted, ended = told(model, name, *arguments), told(holder, name, *arguments)
    case.assertEqual(repr(ended), repr(wanted), (name, arguments))
    if ended[0] != "returned" or name in ("show", "plan", "wish", "way_to"):
        case.assertEqual(state_of(holder), before)
    return ended


def lead(case, holder, model, seed, many, edits=()):
    """Call methods of both by chance; how often each call ended how."""
    chance = random.Random(seed)
    ends = {}
    for _ in range(many):
        index = chance.randrange(len(model.web))
        kind = chance.choice(("do", "do", "do", "do", "do", "can", "can", "can", "know", "show", "plan", "wish", "way_to", "rewind", "edit"))
        if kind == "do":
            call = ("do", (chance.choice(WORDS), index))
        elif kind == "can":
            nodes = range(len(model.web))
            deeds = [(word, v) for word in ("put", "put", "take") for v in nodes if plain_may(model.web, model.now_known, model.now_held, (word, v))]
            call = ("do", chance.choice(deeds)) if deeds else ("show", index)
        elif kind == "rewind":
            call = ("rewind", chance.randint(0, len(model.now_tape) + 1))
        elif kind == "know":
            call = ("know", index) if chance.random() < 0.4 else ("plan", index)
        elif kind == "edit":
            call = ("edit",) + chance.choice(edits) if edits and chance.random() < 0.3 else ("wish", index)
        else:
            call = (kind, index)
        ended = do_both(case, holder, model, *call)
        ends[(call[0], ended[0])] = ends.get((call[0], ended[0]), 0) + 1
        check_same(case, holder, model)
    return ends


def are_wrong(case, holder, name, rows):
    """Check that each row of arguments raises Wrong with the place that stands ahead of it, and changes nothing."""
    before = state_of(holder)
    for place, arguments in rows:
        with case.assertRaises(Wrong) as caught:
            getattr(holder, name)(*arguments)
        case.assertEqual(caught.exception.place, place, (name, arguments))
        case.assertEqual(state_of(holder), before)
