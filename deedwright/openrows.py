"""Open rows: pairs (own, lets) of rows, that tell what comes out where a row goes in.

Out come the deeds of own, and those that lets and what goes in have in common. What is given
is in normal form, no deed being in both; what is handed in need not be.
"""

from deedwright.bits import less


def opened(own, lets):
    """The open row of two rows."""
    return (own, less(lets, own))


def filled(one, r):
    """What comes out of an open row where r goes in."""
    return one[0] | (one[1] & r)


def joined(one, other):
    """What comes out of either."""
    return opened(one[0] | other[0], one[1] | other[1])


def without(one, row):
    """What comes out, but the deeds of a row."""
    return opened(less(one[0], row), less(one[1], row))


def behind(one, other):
    """What comes out of the one where what comes out of the other goes in."""
    return opened(filled(one, other[0]), one[1] & other[1])


def within(one, other):
    """Whether all that comes out of the one comes out of the other too, whatever goes in."""
    # What the one has of its own comes out where nothing goes in, so the other must have it of its own.
    lacks_own = less(one[0], other[0])
    lacks_lets = less(one[1], other[0] | other[1])
    return lacks_own == 0 and lacks_lets == 0
