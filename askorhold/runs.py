"""Running a CALL, each CALL that is NEEDED being worked out first [17]."""

from askorhold.bodies import NoteTaker, body_value, is_need
from askorhold.errors import Endless, TooMany
from askorhold.forms import marks_of

MOST_NESTED = 20


class TurnTaker:
    """The RESULTS of the calls of one body, taken one behind the other, whatever is called."""

    def __init__(self, results):
        self.results = results
        self.many = 0

    def take(self, call):
        """Return the RESULT whose turn it is, or what says that the CALL is needed."""
        if self.many == len(self.results):
            return ("needs", call)
        self.many += 1
        return self.results[self.many - 1]


def run(program, call, most):
    """Return the NOTES of all CALLS that come to be known when a CALL is worked out, itself last."""
    known = {}
    begun = {marks_of(call): call}
    waiting = [call]
    while waiting:
        ended = body_value(program, waiting[-1], NoteTaker(known))
        if is_need(ended):
            needed = ended[1]
            check_need(needed, begun, len(known), most)
            begun[marks_of(needed)] = needed
            waiting.append(needed)
        else:
            done = waiting.pop()
            marks = marks_of(done)
            del begun[marks]
            known[marks] = (done, ended)
    return tuple(known.values())


def check_need(needed, begun, many_known, most):
    """Raise an error if a CALL that is NEEDED can't be begun, too."""
    if marks_of(needed) in begun:
        raise Endless(needed)
    if 1 + len(begun) + many_known > most:
        raise TooMany(most)


def result_of(program, call, most):
    """Return the RESULT of a CALL by run."""
    return run(program, call, most)[-1][1]


def nested_result(program, call, most):
    """Return the RESULT of a CALL, each CALL being evaluated where it stands, None if these are too many."""
    # Each CALL that stands in another one waits with the RESULTS that its body took up to now. Its body
    # is evaluated anew with them, as bodies in bodies would be too deep for calls of Python.
    waiting = [call]
    results = [[]]
    many = 1
    while True:
        ended = body_value(program, waiting[-1], TurnTaker(results[-1]))
        if is_need(ended):
            many += 1
            if many > most or len(waiting) == MOST_NESTED:
                return None
            waiting.append(ended[1])
            results.append([])
        else:
            waiting.pop()
            results.pop()
            if not waiting:
                return ended
            results[-1].append(ended)
