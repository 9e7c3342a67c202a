"""DEEDS out of PLANS: whoever asks little can hold little [30]."""

from askorhold.deeds import backward
from askorhold.webs import with_known


def deeds_of(web, known, w, plan):
    """Return the puts and takes behind which what is held COMES to w in the PRICE of a PLAN."""
    if plan[0] == "blame":
        return ()
    _, x, wrong, right = plan
    ahead = deeds_of(web, known, x, wrong)
    return ahead + (("put", x),) + backward(ahead) + deeds_of(web, with_known(known, (x,)), w, right)


def put_deeds(web, known, w, plan):
    """Return the puts and takes behind which just w is held."""
    ahead = deeds_of(web, known, w, plan)
    return ahead + (("put", w),) + backward(ahead)
