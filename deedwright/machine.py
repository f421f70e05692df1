"""Runs code with frames: each do goes straight to the handler that answers it."""

from deedwright.frames import Frames, HandlerFrame, PartFrame, come_back, guards_left, keep_anew
from deedwright.frames import put_handler, put_on, standing_handler, take_handler, take_off
from deedwright.reckon import reckoned


class Machine:
    """A run of code: the code, the answers that are left, the next one last, the bound, and what came of it so far."""

    def __init__(self, code, answers, bound):
        self.parts = code[0]
        self.handlers = code[1]
        self.answers = list(reversed(answers))
        self.bound = bound
        self.frames = Frames()
        self.record = []
        self.used = 0
        self.end = None


def run_code(code, numbers, answers, turns):
    """The end, the record, the turns taken and the count of frames copied, of the run of a function's code."""
    machine = Machine(code, answers, turns)
    # Nothing stands round the first part, so all of its deeds are answered by hand.
    by_hand = tuple([0 for deed in code[0][0][1]])
    put_part(machine, 0, tuple(numbers), by_hand)
    while machine.end is None:
        frame = machine.frames.row[-1]
        row = frame.rows[frame.at]
        frame.at = frame.at + 1
        ROWS[row[0]](machine, frame, row)
    return (machine.end, machine.record, machine.used, machine.frames.copied)


def put_part(machine, number, known, answerers):
    """Puts a frame for the part of a number on top, and gives it."""
    frame = PartFrame(machine.parts[number], known, answerers)
    machine.frames.row.append(frame)
    return frame


def tell(frame, number):
    """Puts a number to those that are waited for."""
    frame.numbers = frame.numbers + (number,)


def taken(frame, count):
    """Takes as many of the numbers that were told last, in the order in which they were told."""
    at = len(frame.numbers) - count
    numbers = frame.numbers[at:]
    frame.numbers = frame.numbers[:at]
    return numbers


def took_turn(machine):
    """Takes a turn, or ends the run where none is left; tells whether one was."""
    if machine.used >= machine.bound:
        machine.end = ("spent",)
        return False
    machine.used = machine.used + 1
    return True


def picked(frame, picks, put):
    """The answerers that a frame picks for one that it makes; put is the handler just put there."""
    return tuple([put if place == -1 else frame.answerers[place] for place in picks])


def do_num(machine, frame, row):
    """("num", n): tells a number."""
    tell(frame, row[1])


def do_get(machine, frame, row):
    """("get", k): tells what a variable stands for."""
    tell(frame, frame.known[row[1]])


def do_op(machine, frame, row):
    """("op", sign): tells what a sign tells of two numbers."""
    pair = taken(frame, 2)
    number = reckoned(row[1], pair[0], pair[1])
    if number is None:
        machine.end = ("great",)
    else:
        tell(frame, number)


def do_keep(machine, frame, row):
    """("keep",): makes a number a variable."""
    frame.known = frame.known + taken(frame, 1)


def do_drop(machine, frame, row):
    """("drop",): forgets the last variable."""
    frame.known = frame.known[:-1]


def do_unless(machine, frame, row):
    """("unless", p): leads to row p where 0 was told."""
    if taken(frame, 1)[0] == 0:
        frame.at = row[1]


def do_skip(machine, frame, row):
    """("skip", q): leads to row q."""
    frame.at = row[1]


def do_guard(machine, frame, row):
    """("guard",): sets a guard."""
    number = taken(frame, 1)[0]
    machine.record.append(("guard", number))
    frame.guards = frame.guards + (number,)


def do_clean(machine, frame, row):
    """("clean",): cleans the last guard."""
    machine.record.append(("clean", frame.guards[-1]))
    frame.guards = frame.guards[:-1]


def do_call(machine, frame, row):
    """("call", t, count, picks): puts a frame for a function on top."""
    numbers = taken(frame, row[2])
    if took_turn(machine):
        put_part(machine, row[1], numbers, picked(frame, row[3], 0))


def do_under(machine, frame, row):
    """("under", h, t, needs, picks): puts a handler on top, and on that a frame for what is handled."""
    kept = taken(frame, 1)[0]
    handler = HandlerFrame(machine.handlers[row[1]], kept, picked(frame, row[3], 0))
    number = put_handler(machine.frames, handler)
    put_part(machine, row[2], frame.known, picked(frame, row[4], number))


def do_do(machine, frame, row):
    """("do", place): has a deed answered, by a handler or by hand."""
    deed = frame.deeds[row[1]]
    answerer = frame.answerers[row[1]]
    number = taken(frame, 1)[0]
    if took_turn(machine):
        machine.record.append(("do", deed, number))
        if answerer != 0:
            begin_clause(machine, answerer, deed, number)
        elif machine.answers != []:
            tell(frame, machine.answers.pop())
        else:
            machine.end = ("asks", deed, number)


def begin_clause(machine, answerer, deed, number):
    """Puts a frame for the clause of a deed on top, with all that is to be held taken off ahead of that."""
    handler = standing_handler(machine.frames, answerer)
    clause = [one for one in handler.handler[2] if one[0] == deed][0]
    known = (number, handler.kept)
    if clause[1] == "jump":
        frame = put_part(machine, clause[2], known, handler.answerers)
        frame.jumps_to = answerer
    else:
        held = take_off(machine.frames, answerer)
        frame = put_part(machine, clause[2], known, handler.answerers)
        frame.held = held


def do_go(machine, frame, row):
    """("go", last): puts what a clause holds on top, and tells the do there its answer."""
    pair = taken(frame, 2)
    if took_turn(machine):
        frame.went = True
        put_on(machine.frames, frame, row[1], pair[1])
        come_back(machine.frames, pair[0])


def do_jump(machine, frame, row):
    """("jump",): leaves a jump's clause, and tells the do beneath its answer."""
    pair = taken(frame, 2)
    if took_turn(machine):
        machine.frames.row.pop()
        keep_anew(machine.frames, frame.jumps_to, pair[1])
        come_back(machine.frames, pair[0])


def do_give(machine, frame, row):
    """("give",): leaves a part that is done, and tells its number to the frame beneath."""
    number = frame.numbers[-1]
    frames = machine.frames
    frames.row.pop()
    machine.record.extend([("clean", guard) for guard in guards_left(frame)])
    if frames.row == []:
        machine.end = ("done", number)
    elif isinstance(frames.row[-1], HandlerFrame):
        handler = take_handler(frames)
        put_part(machine, handler.handler[3], (number, handler.kept), handler.answerers)
    else:
        come_back(frames, number)


ROWS = {
    "num": do_num,
    "get": do_get,
    "op": do_op,
    "keep": do_keep,
    "drop": do_drop,
    "unless": do_unless,
    "skip": do_skip,
    "guard": do_guard,
    "clean": do_clean,
    "call": do_call,
    "under": do_under,
    "do": do_do,
    "go": do_go,
    "jump": do_jump,
    "give": do_give,
}
