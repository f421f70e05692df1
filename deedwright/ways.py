"""Ways along which a deed comes out of a spot, and functions let by where some deeds are answered by hand.

A spot is ("def", f, g), the function f with the function g handed on, or None, or ("handler", h, None).
"""

from deedwright.bits import deeds_of, row_by
from deedwright.errors import Lacking
from deedwright.found import row_of
from deedwright.rest import rests_of
from deedwright.trees import stands_for


def let_by(program, f, hands=None):
    """The sorted list of a function's row; Lacking where it has a deed that is not answered by hand."""
    row = row_of(program, f)
    lacks = [deed for deed in row if hands is None or deed not in hands]
    if lacks != []:
        raise Lacking(lacks[0], way(program, ("def", f, None), lacks[0]))
    return row


def way(program, spot, deed):
    """The spots along a way of a deed, from a spot on; None where there is none."""
    deeds = deeds_of(program)
    if deed not in deeds:
        return None
    rests = rests_of(program, deeds)
    bit = row_by([deed], deeds)
    # The nearest spots first: so the way is one of the shortest, and no spot is on it twice.
    led_from = {spot: None}
    spots = [spot]
    at = 0
    while at < len(spots):
        here = spots[at]
        if (rests[here[1]].done & bit) != 0:
            return traced(here, led_from)
        for there in led_to(here, rests[here[1]], bit):
            if there not in led_from:
                led_from[there] = here
                spots.append(there)
        at = at + 1
    return None


def traced(last, led_from):
    """The spots from the first one, which none leads to, to the last."""
    along = []
    spot = last
    while spot is not None:
        along.append(spot)
        spot = led_from[spot]
    return list(reversed(along))


def led_to(spot, rest, bit):
    """The spots that a spot leads to for a deed, by what is left of its item."""
    return [used_spot(tree, rest.block, spot[2]) for tree, answered in rest.uses if (answered & bit) == 0]


def used_spot(tree, block, handed):
    """The spot that a call or a handle is of, where handed is what the own block stands for."""
    if tree[0] == "handle":
        return ("handler", tree[1], None)
    return ("def", stands_for(tree[1], (block, handed)), stands_for(tree[2], (block, handed)))
