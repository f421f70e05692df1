"""Runs programs as trees.

What is left to do is a row of pieces, the outermost first. A piece is a Doing, a body that is under
way, or a Standing, a handler. A Doing has its tasks, its numbers and its variables linked: None, or
a pair of the next or last one and what is linked to it.
A task is an expression that is to be done, or ("then", tree) where the parts that are done ahead
of a tree are done, ("drop",) where a let's variable is no longer known, ("clean", number).

Pieces that are left to do are never changed: one that is come back to is copied first. So they may
be held by clauses, put back often, and kept by a Halt, and none of these knows of the others.
"""

from deedwright.checks import begun_at, check_numbers
from deedwright.errors import NoHold
from deedwright.reckon import reckoned
from deedwright.trees import items_by_name, parts_of, stands_for

# Of these only the first part is done ahead of all else, of the others all are.
FIRST_AHEAD = ("let", "if", "handle", "guard")


class Halt:
    """A run at its end: how it ended, its record, the turns taken; waits is the Walk of one that asks."""

    def __init__(self, end, record, used, waits):
        self.end = end
        self.record = record
        self.used = used
        self.waits = waits


class Walk:
    """A run: its program, what is under way, what is left beneath that, and what came of it so far.

    left is the list of the pieces beneath, standing that of the places in it where a handler stands.
    """

    def __init__(self, named, clauses, bound):
        self.named = named
        self.clauses = clauses
        self.bound = bound
        self.doing = None
        self.left = []
        self.standing = []
        self.record = []
        self.used = 0
        self.end = None


class Doing:
    """A body that is under way.

    block is a pair: the name of the own block and the function that was handed on, or None twice.
    held is, of a clause, the list of the pieces that it holds, its handler first and that of the do
    last, else None; went is whether a go was done.
    """

    def __init__(self, body, known, block, held):
        self.tasks = (body, None)
        self.numbers = None
        self.known = known
        self.block = block
        self.held = held
        self.went = False


class Standing:
    """A handler that stands, by its name, with its kept number."""

    def __init__(self, name, kept):
        self.name = name
        self.kept = kept


def begun(program, f, numbers, turns):
    """The Halt of a run without answers by hand; NoName or NoCount where it can't be begun."""
    walk = readied(program, f, numbers, turns)
    walk_on(walk)
    return halted(walk)


def gone_on(halt, answer):
    """The Halt of the run that goes on from where one asks, with an answer; NoHold where none asks."""
    if halt.waits is None:
        raise NoHold("the run doesn't ask")
    walk = walk_copied(halt.waits)
    answered(walk, answer)
    return halted(walk)


def run(program, f, numbers, answers, turns):
    """The end, the record and the turns taken of a run with answers by hand; refuses as begun does."""
    walk = readied(program, f, numbers, turns)
    walk_on(walk)
    for answer in answers:
        if walk.end[0] == "asks":
            answered(walk, answer)
    return (walk.end, walk.record, walk.used)


def readied(program, f, numbers, turns):
    """A run of which nothing is done yet."""
    named = items_by_name(program)
    function = begun_at(f, named)
    check_numbers(function, numbers)
    walk = Walk(named, clauses_by_deed(program), turns)
    walk.doing = Doing(function[4], linked(function[2], numbers), (None, None), None)
    return walk


def clauses_by_deed(program):
    """The clauses of all handlers by pairs of the handler's name and the deed."""
    clauses = {}
    for item in program:
        if item[0] == "handler":
            for clause in item[2]:
                clauses[(item[1], clause[0])] = clause
    return clauses


def halted(walk):
    """The Halt of a run that came to its end."""
    return Halt(walk.end, list(walk.record), walk.used, walk if walk.end[0] == "asks" else None)


def walk_copied(walk):
    """A run that stands where another one does, and goes on apart from it."""
    other = Walk(walk.named, walk.clauses, walk.bound)
    other.doing = doing_copied(walk.doing)
    other.left = list(walk.left)
    other.standing = list(walk.standing)
    other.record = list(walk.record)
    other.used = walk.used
    return other


def doing_copied(doing):
    """A body under way that stands where another one does."""
    other = Doing(None, doing.known, doing.block, doing.held)
    other.tasks = doing.tasks
    other.numbers = doing.numbers
    other.went = doing.went
    return other


def linked(names, numbers):
    """Variables with what they stand for, linked."""
    known = None
    for pair in zip(names, numbers):
        known = (pair, known)
    return known


def answered(walk, answer):
    """Goes on with a run that asks."""
    walk.end = None
    put(walk.doing, answer)
    walk_on(walk)


def walk_on(walk):
    """Does what is left to do, up to the run's end."""
    while walk.end is None:
        doing = walk.doing
        if doing.tasks is None:
            leave(walk)
        else:
            task = doing.tasks[0]
            doing.tasks = doing.tasks[1]
            do_task(walk, task)


def do_task(walk, task):
    """Does one task of the body that is under way, up to the parts that are ahead of it."""
    doing = walk.doing
    if task[0] == "num":
        put(doing, task[1])
    elif task[0] == "var":
        put(doing, looked_up(task[1], doing.known))
    elif task[0] == "then":
        THEN[task[1][0]](walk, task[1])
    elif task[0] == "drop":
        doing.known = doing.known[1]
    elif task[0] == "clean":
        walk.record.append(task)
    else:
        doing.tasks = (("then", task), doing.tasks)
        for part in reversed(ahead_of(task)):
            doing.tasks = (part, doing.tasks)


def ahead_of(tree):
    """The parts that are done ahead of an expression, whatever they tell."""
    parts = parts_of(tree)
    return parts[:1] if tree[0] in FIRST_AHEAD else parts


def looked_up(name, known):
    """What a variable stands for."""
    while known[0][0] != name:
        known = known[1]
    return known[0][1]


def put(doing, number):
    """Puts a number that was told to those that are waited for."""
    doing.numbers = (number, doing.numbers)


def taken(doing, count):
    """Takes as many of the numbers that were told last, in the order in which they were told."""
    numbers = []
    while len(numbers) < count:
        numbers.append(doing.numbers[0])
        doing.numbers = doing.numbers[1]
    return list(reversed(numbers))


def took_turn(walk):
    """Takes a turn, or ends the run where none is left; tells whether one was."""
    if walk.used >= walk.bound:
        walk.end = ("spent",)
        return False
    walk.used = walk.used + 1
    return True


def then_op(walk, tree):
    """Tells what a sign tells of its two parts."""
    pair = taken(walk.doing, 2)
    number = reckoned(tree[1], pair[0], pair[1])
    if number is None:
        walk.end = ("great",)
    else:
        put(walk.doing, number)


def then_let(walk, tree):
    """Goes on to a let's b, in which its variable is known."""
    doing = walk.doing
    doing.known = ((tree[1], taken(doing, 1)[0]), doing.known)
    doing.tasks = (tree[3], (("drop",), doing.tasks))


def then_if(walk, tree):
    """Goes on to the branch of an if that is chosen."""
    doing = walk.doing
    chosen = tree[3] if taken(doing, 1)[0] == 0 else tree[2]
    doing.tasks = (chosen, doing.tasks)


def then_guard(walk, tree):
    """Goes on to a guard's b, behind which it is cleaned."""
    doing = walk.doing
    number = taken(doing, 1)[0]
    walk.record.append(("guard", number))
    doing.tasks = (tree[2], (("clean", number), doing.tasks))


def then_call(walk, tree):
    """Begins a function's body on top of the one under way."""
    doing = walk.doing
    numbers = taken(doing, len(tree[3]))
    if took_turn(walk):
        function = walk.named[stands_for(tree[1], doing.block)]
        block = (function[3], stands_for(tree[2], doing.block))
        walk.left.append(doing)
        walk.doing = Doing(function[4], linked(function[2], numbers), block, None)


def then_handle(walk, tree):
    """Puts a handler on top of the body under way, and begins what is handled."""
    doing = walk.doing
    handler = Standing(tree[1], taken(doing, 1)[0])
    walk.standing.append(len(walk.left) + 1)
    walk.left.extend([doing, handler])
    walk.doing = Doing(tree[3], doing.known, doing.block, None)


def then_do(walk, tree):
    """Begins the clause of the nearest handler that has one, or ends the run: it asks."""
    deed = tree[1]
    number = taken(walk.doing, 1)[0]
    if not took_turn(walk):
        return
    walk.record.append(("do", deed, number))
    at = len(walk.standing) - 1
    while at >= 0 and (walk.left[walk.standing[at]].name, deed) not in walk.clauses:
        at = at - 1
    if at < 0:
        walk.end = ("asks", deed, number)
    else:
        held = taken_off(walk, at)
        clause = walk.clauses[(held[0].name, deed)]
        walk.doing = Doing(clause[3], linked(clause[1:3], (number, held[0].kept)), (None, None), held)


def taken_off(walk, at):
    """Takes off all from one of the standing handlers on, what is under way too, and gives it."""
    place = walk.standing[at]
    held = walk.left[place:] + [walk.doing]
    walk.left = walk.left[:place]
    walk.standing = walk.standing[:at]
    return held


def then_go(walk, tree):
    """Puts what a clause holds on top of it, and tells the do there its answer."""
    doing = walk.doing
    pair = taken(doing, 2)
    if took_turn(walk):
        doing.went = True
        walk.left.append(doing)
        put_on(walk, doing.held, pair[1])
        walk.doing = doing_copied(doing.held[-1])
        put(walk.doing, pair[0])


def put_on(walk, held, kept):
    """Puts what is held, but that of the do, on what is left, its handler with another kept number."""
    at = len(walk.left)
    places = [at + place for place, piece in enumerate(held) if isinstance(piece, Standing)]
    walk.standing.extend(places)
    walk.left.append(Standing(held[0].name, kept))
    walk.left.extend(held[1:-1])


# What is done of each expression when the parts ahead of it are done.
THEN = {
    "op": then_op,
    "let": then_let,
    "if": then_if,
    "call": then_call,
    "do": then_do,
    "handle": then_handle,
    "go": then_go,
    "guard": then_guard,
}


def leave(walk):
    """Leaves a body that is done, and tells its number to the nearest piece that is left."""
    number = walk.doing.numbers[0]
    if holds_alone(walk.doing):
        throw_away(walk.doing.held, walk.record)
    if walk.left == []:
        walk.end = ("done", number)
        return
    piece = walk.left.pop()
    if isinstance(piece, Standing):
        walk.standing.pop()
        end = walk.named[piece.name][3]
        walk.doing = Doing(end[2], linked(end[:2], (number, piece.kept)), (None, None), None)
    else:
        walk.doing = doing_copied(piece)
        put(walk.doing, number)


def holds_alone(doing):
    """Whether a body is that of a clause which never went on: what it holds is nowhere else."""
    return doing.held is not None and not doing.went


def throw_away(held, record):
    """Cleans the guards of what is held, from the do outward, and of what is held within that."""
    waiting = list(held)
    while waiting != []:
        piece = waiting.pop()
        if isinstance(piece, Doing):
            record.extend(guards_of(piece))
            if holds_alone(piece):
                waiting.extend(piece.held)


def guards_of(doing):
    """What cleaning the guards of a body under way puts into the record, the innermost first."""
    found = []
    tasks = doing.tasks
    while tasks is not None:
        if tasks[0][0] == "clean":
            found.append(tasks[0])
        tasks = tasks[1]
    return found
