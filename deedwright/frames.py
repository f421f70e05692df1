"""The row of frames of the machine.

A frame is a PartFrame, a part that is under way, or a HandlerFrame, a handler that stands. Only the
PartFrame on top of the row is ever changed, but for the mark shared: one that is come back to is put
anew in its own place first. So what is held by clauses stays as it is, and a copy of a frame at rest
needs no room of its own: it is counted, and marked, as one.
"""


class PartFrame:
    """A part that is under way.

    at is the number of its next row; known, numbers and guards are tuples of what its variables stand
    for, of what was told and is waited for, and of the numbers of its guards that are not cleaned;
    answerers has for each of its deeds the number of the standing handler that answers it, or 0.
    Of a jump's clause jumps_to is the number of its handler, else 0. Of a clause that is taken held is
    the list of the frames that it holds, its handler's first, else None; went is whether it went on.
    shared is whether the frame was copied, or is a copy.
    """

    def __init__(self, part, known, answerers):
        self.deeds = part[1]
        self.rows = part[2]
        self.at = 0
        self.known = known
        self.numbers = ()
        self.guards = ()
        self.answerers = answerers
        self.jumps_to = 0
        self.held = None
        self.went = False
        self.shared = False


class HandlerFrame:
    """A handler that stands: as code tells it, with its kept number, and who answers its deeds."""

    def __init__(self, handler, kept, answerers):
        self.handler = handler
        self.kept = kept
        self.answerers = answerers


class Frames:
    """The row of frames, from the outermost on.

    standing has the places of the handlers in the row: that of the handler numbered k at k - 1;
    copied is the count of the frames that were copied.
    """

    def __init__(self):
        self.row = []
        self.standing = []
        self.copied = 0


def put_handler(frames, handler):
    """Puts a handler on top; the number by which it stands is given."""
    frames.standing.append(len(frames.row))
    frames.row.append(handler)
    return len(frames.standing)


def take_handler(frames):
    """Takes off the handler that is on top, and gives it."""
    frames.standing.pop()
    return frames.row.pop()


def standing_handler(frames, number):
    """The handler that stands by a number."""
    return frames.row[frames.standing[number - 1]]


def keep_anew(frames, number, kept):
    """Sets the kept number of the handler that stands by a number."""
    handler = standing_handler(frames, number)
    frames.row[frames.standing[number - 1]] = HandlerFrame(handler.handler, kept, handler.answerers)


def come_back(frames, number):
    """Tells a number to the part's frame that is on top again."""
    frame = anew(frames.row.pop())
    frame.numbers = frame.numbers + (number,)
    frames.row.append(frame)


def anew(frame):
    """A part's frame that is just as another one, and may be changed without changing that."""
    other = PartFrame((None, frame.deeds, frame.rows), frame.known, frame.answerers)
    other.at = frame.at
    other.numbers = frame.numbers
    other.guards = frame.guards
    other.jumps_to = frame.jumps_to
    other.held = frame.held
    other.went = frame.went
    other.shared = frame.shared
    return other


def take_off(frames, number):
    """Takes off all frames from the handler that stands by a number on, and gives them."""
    at = frames.standing[number - 1]
    held = frames.row[at:]
    frames.row = frames.row[:at]
    frames.standing = frames.standing[: number - 1]
    return held


def put_on(frames, clause, last, kept):
    """Puts what a clause holds on top, its handler with another kept number: copies, or as it is."""
    held = clause.held
    if last and not clause.shared:
        clause.held = None
    else:
        copy_all(frames, held)
    put_handler(frames, HandlerFrame(held[0].handler, kept, held[0].answerers))
    for frame in held[1:]:
        if isinstance(frame, HandlerFrame):
            put_handler(frames, frame)
        else:
            frames.row.append(frame)


def copy_all(frames, held):
    """Copies the frames that are held."""
    frames.copied = frames.copied + len(held)
    for frame in held:
        if isinstance(frame, PartFrame):
            frame.shared = True


def guards_left(clause):
    """The numbers of the guards that are to be cleaned when a clause has told its number, in their order."""
    found = []
    waiting = held_alone(clause)
    while waiting != []:
        frame = waiting.pop()
        if isinstance(frame, PartFrame):
            found.extend(list(reversed(frame.guards)))
            waiting.extend(held_alone(frame))
    return found


def held_alone(frame):
    """The frames that a frame holds and that are nowhere else: it never went on."""
    return [] if frame.held is None or frame.went else list(frame.held)
