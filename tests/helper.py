"""What the tests share."""

import itertools
import random
import unittest

from deedwright.checks import check
from deedwright.code import code_of
from deedwright.errors import NoText
from deedwright.found import open_rows
from deedwright.machine import run_code
from deedwright.reader import read
from deedwright.walk import begun, gone_on, run

WORDS = "def handler on end let if call hand do handle go guard".split()
END = "(end x s x)"


def in_function(text):
    """The text of a program with one function, whose body a text writes."""
    return "(def f () " + text + ")"


class ReaderCase(unittest.TestCase):
    """Asks what a text is read to, or that it is refused."""

    def reads(self, text, program):
        # By their repr, which tells tuples from lists and 1 from True.
        with self.subTest(text=text[:80]):
            self.assertEqual(repr(read(text)), repr(program))

    def reads_body(self, text, body):
        self.reads(in_function(text), (("def", "f", (), None, body),))

    def refuses(self, text):
        with self.subTest(text=text[:80]):
            with self.assertRaises(ValueError) as caught:
                read(text)
            self.assertIs(type(caught.exception), NoText)

    def refuses_body(self, text):
        self.refuses(in_function(text))


class CheckCase(unittest.TestCase):
    """Asks whether a program, told by its text, is let by, or which refusal it meets."""

    def lets_by(self, text):
        with self.subTest(text=text[:200]):
            self.assertIsNone(check(read(text)))

    def refuses(self, kind, text):
        with self.subTest(text=text[:200]):
            with self.assertRaises(ValueError) as caught:
                check(read(text))
            self.assertIs(type(caught.exception), kind)


def codes_of(program, f):
    """The code of a function with jumps, and without any."""
    return [code_of(program, f), code_of(program, f, all_clauses(program))]


class RunCase(unittest.TestCase):
    """Asks how runs end, of a program told by its text, and looks at them from all sides.

    Each run that is asked for is held against the second writing of the points and against that of its
    code, with jumps and without, too, and is done with all lower bounds of turns, and answer by answer.
    """

    def ends(self, text, end, numbers=(), answers=(), turns=2000, f="f", record=None, used=None):
        program = read(text)
        with self.subTest(text=text[:300], numbers=numbers, answers=answers, turns=turns):
            self.assertIsNone(check(program))
            whole = run(program, f, list(numbers), list(answers), turns)
            self.assertEqual(whole[0], end)
            if record is not None:
                self.assertEqual(whole[1], record)
            if used is not None:
                self.assertEqual(whole[2], used)
            self.looked_at(program, f, numbers, answers, turns, whole)

    def ran(self, program, numbers=(), answers=(), turns=2000, f="f"):
        """What comes of a run, which its code comes to, too."""
        whole = run(program, f, list(numbers), list(answers), turns)
        for code in codes_of(program, f):
            self.assertEqual(run_code(code, list(numbers), list(answers), turns)[:3], whole)
        return whole

    def looked_at(self, program, f, numbers, answers, turns, whole):
        codes = codes_of(program, f)
        self.assertEqual(self.ran(program, numbers, answers, turns, f), whole)
        if whole[2] > 200:
            return
        self.assertEqual(second_run(program, f, numbers, answers, turns), whole)
        needed = whole[2] + (whole[0] == ("spent",))
        for bound in range(needed):
            spent = run(program, f, list(numbers), list(answers), bound)
            self.assertEqual((spent[0], spent[2]), (("spent",), bound))
            self.assertEqual(spent[1], whole[1][: len(spent[1])])
            self.assertEqual(second_run(program, f, numbers, answers, bound), spent)
            for code in codes:
                self.assertEqual(run_code(code, list(numbers), list(answers), bound)[:3], spent)
        halt = begun(program, f, list(numbers), turns)
        for count in range(len(answers) + 1):
            expected = run(program, f, list(numbers), list(answers[:count]), turns)
            self.assertEqual((halt.end, halt.record, halt.used), expected)
            if halt.end[0] != "asks" or count == len(answers):
                break
            halt = gone_on(halt, answers[count])


# From here to the Maker the points are written once more, apart from the program, to hold it against.


def direct_parts(tree):
    """The parts of an expression."""
    return tree[3] if tree[0] == "call" else [thing for thing in tree[1:] if isinstance(thing, tuple)]


def nested_parts(tree):
    """An expression and all its parts and theirs."""
    yield tree
    for part in direct_parts(tree):
        yield from nested_parts(part)


def bodies(item):
    """The bodies of an item."""
    return [item[4]] if item[0] == "def" else [clause[3] for clause in item[2]] + [item[3][2]]


def named(program, name):
    """The item of a name."""
    return [item for item in program if item[1] == name][0]


def clause_deeds(program, h):
    """The deeds that a handler has a clause for."""
    return {clause[0] for clause in named(program, h)[2]}


def may_be_handed(program):
    """The names of the functions that may be handed on."""
    return [item[1] for item in program if item[0] == "def" and len(item[2]) == 1 and item[3] is None]


def all_deeds(program):
    """The deeds of a program, sorted (point 9)."""
    found = {part[1] for item in program for body in bodies(item) for part in nested_parts(body) if part[0] == "do"}
    return sorted(found.union(*[clause_deeds(program, item[1]) for item in program if item[0] == "handler"]))


def subsets(deeds):
    """All sets of some of the deeds."""
    counts = range(len(deeds) + 1)
    return [set(some) for count in counts for some in itertools.combinations(deeds, count)]


def comes_out(tree, program, table, block, r):
    """The deeds that come out of an expression by a table, r being the row of the own block (point 12)."""
    outs = [comes_out(part, program, table, block, r) for part in direct_parts(tree)]
    if tree[0] == "do":
        outs.append({tree[1]})
    if tree[0] == "handle":
        outs[1] = outs[1] - clause_deeds(program, tree[1])
        outs.append(set(table[tree[1]][0]))
    if tree[0] == "call" and tree[1] == block:
        outs.append(r)
    elif tree[0] == "call":
        own, lets = table[tree[1]]
        handed = set() if tree[2] is None else r if tree[2] == block else set(table[tree[2]][0])
        outs.append(set(own) | set(lets) & handed)
    return set().union(*outs)


def table_fits(program, table):
    """Whether a table fits, for every r (point 12)."""
    every = subsets(all_deeds(program))
    for item in program:
        own, lets = map(set, table[item[1]])
        block = item[3] if item[0] == "def" else None
        for r in every if block is not None else [set()]:
            for body in bodies(item):
                if not comes_out(body, program, table, block, r) <= own | lets & r:
                    return False
    return True


def all_tables(program):
    """Every table of a program, in normal form."""
    deeds = all_deeds(program)
    rows = []
    for item in program:
        blocked = item[0] == "def" and item[3] is not None
        rows.append([(sorted(own), sorted(lets)) for own in subsets(deeds)
                     for lets in (subsets([deed for deed in deeds if deed not in own]) if blocked else [()])])
    for chosen in itertools.product(*rows):
        yield {item[1]: row for item, row in zip(program, chosen)}


def table_within(one, other):
    """Whether a table is within another one, item by item."""
    for name in one:
        (own, lets), (other_own, other_lets) = one[name], other[name]
        if not (set(own) <= set(other_own) and set(lets) <= set(other_own) | set(other_lets)):
            return False
    return True


def spots_of(program):
    """All spots of a program (point 14)."""
    spots = []
    for item in program:
        blocked = item[0] == "def" and item[3] is not None
        spots += [(item[0], item[1], g) for g in (may_be_handed(program) if blocked else [None])]
    return spots


def open_parts(program, tree, deed):
    """The parts of an expression, itself too, that are open for a deed (point 14)."""
    yield tree
    for at, part in enumerate(direct_parts(tree)):
        if not (tree[0] == "handle" and at == 1 and deed in clause_deeds(program, tree[1])):
            yield from open_parts(program, part, deed)


def leads_to(program, spot, deed):
    """The spots that a spot leads to for a deed, and whether the deed is done there (point 14)."""
    item = named(program, spot[1])
    block = item[3] if item[0] == "def" else None
    stands_for = {block: spot[2]} if block is not None else {}
    spots, done = set(), False
    for part in [part for body in bodies(item) for part in open_parts(program, body, deed)]:
        if part[0] == "handle":
            spots.add(("handler", part[1], None))
        elif part[0] == "call" and part[1] == block:
            spots.add(("def", spot[2], None))
        elif part[0] == "call":
            spots.add(("def", part[1], stands_for.get(part[2], part[2])))
        done = done or part[:2] == ("do", deed)
    return spots, done


def has_way(program, spot, deed):
    """Whether a deed has a way from a spot (point 14)."""
    seen, waiting = {spot}, [spot]
    while waiting:
        spots, done = leads_to(program, waiting.pop(), deed)
        if done:
            return True
        waiting += spots - seen
        seen |= spots
    return False


def is_way(program, spot, deed, way):
    """Whether a list of spots is a way of a deed from a spot (point 14)."""
    if type(way) is not list or not way or way[0] != spot or len(set(way)) < len(way):
        return False
    for here, there in zip(way, way[1:]):
        if there not in leads_to(program, here, deed)[0]:
            return False
    return leads_to(program, way[-1], deed)[1]


def goes_in_order(tree, at=()):
    """The places of the goes of an expression, in the order in which their rows stand (points 21, 23)."""
    places = [place for k, part in enumerate(direct_parts(tree)) for place in goes_in_order(part, at + (k,))]
    return places + [at] if tree[0] == "go" else places


def ways_through(tree, at=()):
    """All ways through an expression, each as a tuple of the places of the goes done on it (point 21)."""
    inner = [ways_through(part, at + (k,)) for k, part in enumerate(direct_parts(tree))]
    if tree[0] == "if":
        inner = [inner[0], inner[1] + inner[2]]
    ways = {sum(chosen, ()) for chosen in itertools.product(*inner)}
    return sorted(way + (at,) if tree[0] == "go" else way for way in ways)


def second_lasts(tree):
    """For each go of a clause's body whether it is last (point 21)."""
    ways = ways_through(tree)
    return [all(place not in way[:-1] for way in ways) for place in goes_in_order(tree)]


def body_ends_at_go(tree):
    """Whether a clause's body ends at a go (point 21)."""
    if tree[0] == "go":
        return len(goes_in_order(tree)) == 1
    if tree[0] == "let":
        return not goes_in_order(tree[2]) and body_ends_at_go(tree[3])
    return tree[0] == "if" and not goes_in_order(tree[1]) and all(map(body_ends_at_go, tree[2:]))


def second_kind(tree):
    """Of a clause's body: never, jump, once or many (point 21)."""
    if not goes_in_order(tree):
        return "never"
    if body_ends_at_go(tree):
        return "jump"
    return "once" if all(second_lasts(tree)) else "many"


class SecondCode:
    """Points 22 and 23 once more: the parts of code by keys in the place of numbers.

    A key is ("def", f, g), ("on", h, d), ("end", h, None), or ("body", h, None, key, place) for the
    handle at a place in the part of a key.
    """

    def __init__(self, program, taken):
        self.program = program
        self.taken = [tuple(pair) for pair in taken or ()]
        self.table = open_rows(program)
        self.trees = {}

    def part(self, key):
        """The tree of a part, the variables known there, and what the own block stands for."""
        if key[0] == "def":
            item = named(self.program, key[1])
            return item[4], item[2], {} if item[3] is None else {item[3]: key[2]}
        if key[0] == "body":
            return self.trees[key]
        item = named(self.program, key[1])
        x, s, body = item[3] if key[0] == "end" else [clause[1:] for clause in item[2] if clause[0] == key[2]][0]
        return body, (x, s), {}

    def deeds(self, key):
        tree, known, block = self.part(key)
        if key[0] in ("on", "end"):
            return self.table[key[1]][0]
        handed = set().union(*[self.table[g][0] for g in block.values()])
        if key[0] == "def":
            own, lets = self.table[key[1]]
            return sorted(set(own) | set(lets) & handed)
        return sorted(comes_out(tree, self.program, self.table, (list(block) + [None])[0], handed))

    def is_jump(self, h, d):
        body = self.part(("on", h, d))[0]
        return second_kind(body) == "jump" and (h, d) not in self.taken

    def rows(self, key):
        tree, known, block = self.part(key)
        rows = self.tree_rows(key, tree, known, block, 0, ())
        goes = ()
        if key[0] == "on":
            goes = [("go", last) for last in second_lasts(tree)]
            goes = [("jump",)] * len(goes) if self.is_jump(*key[1:]) else goes
        goes = iter(goes)
        return [next(goes) if row == "go" else row for row in rows] + [("give",)]

    def tree_rows(self, key, tree, known, block, base, at):
        rows = []

        def add(k, part, more=()):
            rows.extend(self.tree_rows(key, part, known + more, block, base + len(rows), at + (k,)))

        if tree[0] == "let":
            add(0, tree[2])
            rows.append(("keep",))
            add(1, tree[3], (tree[1],))
            return rows + [("drop",)]
        if tree[0] == "if":
            add(0, tree[1])
            rows.append(None)
            unless = len(rows) - 1
            add(1, tree[2])
            rows.append(None)
            skip = len(rows) - 1
            add(2, tree[3])
            rows[unless], rows[skip] = ("unless", base + skip + 1), ("skip", base + len(rows))
            return rows
        if tree[0] == "guard":
            add(0, tree[1])
            rows.append(("guard",))
            add(1, tree[2])
            return rows + [("clean",)]
        for k, part in enumerate(direct_parts(tree)[:1] if tree[0] == "handle" else direct_parts(tree)):
            add(k, part)
        return rows + [self.row(key, tree, known, block, at)]

    def row(self, key, tree, known, block, at):
        own = self.deeds(key)
        if tree[0] == "var":
            return ("get", len(known) - 1 - known[::-1].index(tree[1]))
        if tree[0] == "do":
            return ("do", own.index(tree[1]))
        if tree[0] == "call":
            called = ("def", block.get(tree[1], tree[1]), block.get(tree[2], tree[2]))
            return ("call", called, len(tree[3]), tuple(own.index(deed) for deed in self.deeds(called)))
        if tree[0] == "handle":
            inner = ("body", tree[1], None, key, at)
            self.trees[inner] = tree[3], known, block
            answered = clause_deeds(self.program, tree[1])
            needs = tuple(own.index(deed) for deed in self.table[tree[1]][0])
            picks = tuple(-1 if deed in answered else own.index(deed) for deed in self.deeds(inner))
            return ("under", tree[1], inner, needs, picks)
        return {"num": tree, "op": tree[:2], "go": "go"}[tree[0]]


def code_fault(program, f, taken, code):
    """What is wrong of a function's code, or None (points 22 and 23); the order of parts is free."""
    second = SecondCode(program, taken)
    parts, handlers = code
    part_at, handler_at = {("def", f, None): 0}, {}
    waiting = [("def", f, None)]

    def meet(places, key, number):
        if key not in places:
            if number in places.values():
                return False
            places[key] = number
            waiting.append(key)
        return places[key] == number

    while waiting:
        key = waiting.pop()
        if isinstance(key, str):
            clauses = [clause[0] for clause in named(program, key)[2]]
            h, deeds, made, end = handlers[handler_at[key]]
            kinds = tuple((d, "jump" if second.is_jump(h, d) else "take") for d in clauses)
            if (h, deeds, tuple(clause[:2] for clause in made)) != (key, tuple(second.table[key][0]), kinds):
                return f"handler {key}"
            met = [meet(part_at, ("on", key, d), clause[2]) for d, clause in zip(clauses, made)]
            if not all(met + [meet(part_at, ("end", key, None), end)]):
                return f"parts of the handler {key}"
            continue
        label, deeds, rows = parts[part_at[key]]
        expected = second.rows(key)
        if label != key[:3] or deeds != tuple(second.deeds(key)) or len(rows) != len(expected):
            return f"part {key}"
        for row, other in zip(rows, expected):
            met = True
            if other[0] == "call":
                met = meet(part_at, other[1], row[1])
                row, other = row[:1] + row[2:], other[:1] + other[2:]
            if other[0] == "under":
                met = meet(handler_at, other[1], row[1]) and meet(part_at, other[2], row[2])
                row, other = row[:1] + row[3:], other[:1] + other[3:]
            # By their repr, which tells tuples from lists and 1 from True.
            if not met or repr(row) != repr(other):
                return f"row {row} of part {key}"
    return None if (len(part_at), len(handler_at)) == (len(parts), len(handlers)) else "parts that are not come to"


class Over(Exception):
    """A run's end."""


class SecondRun:
    """Points 16 to 19 once more: an expression is done to what comes of it.

    That is ("told", number), or, where it can't be gone on with from within, ("do", d, number, on, clean)
    or ("go", a, s, on, clean): on gives what comes of it with an answer, clean cleans its guards.
    """

    def __init__(self, program, answers, turns):
        self.program, self.answers, self.turns = program, list(answers), turns
        self.record, self.used = [], 0

    def turn(self):
        if self.used == self.turns:
            raise Over("spent")
        self.used += 1

    def whole(self, f, numbers):
        try:
            item = named(self.program, f)
            out = self.tree(item[4], dict(zip(item[2], numbers)), {})
            while out[0] != "told":
                if not self.answers:
                    raise Over("asks", out[1], out[2])
                out = out[3](self.answers.pop(0))
            raise Over("done", out[1])
        except Over as over:
            return over.args, self.record, self.used

    def behind(self, out, then, clean=None):
        """What comes of something with then behind it; clean cleans what is guarded round it."""
        if out[0] == "told":
            return then(out[1])

        def cleaned():
            out[4]()
            if clean is not None:
                clean()

        return out[:3] + (lambda answer: self.behind(out[3](answer), then, clean), cleaned)

    def parts(self, trees, env, block, then, numbers=()):
        """What comes of several expressions, one behind another, with then behind them."""
        if len(numbers) == len(trees):
            return then(*numbers)
        out = self.tree(trees[len(numbers)], env, block)
        return self.behind(out, lambda number: self.parts(trees, env, block, then, numbers + (number,)))

    def tree(self, tree, env, block):
        def within(part, **more):
            return self.tree(part, {**env, **more}, block)

        if tree[0] == "num":
            return ("told", tree[1])
        if tree[0] == "var":
            return ("told", env[tree[1]])
        if tree[0] == "op":
            return self.parts(tree[2:], env, block, lambda a, b: self.op(tree[1], a, b))
        if tree[0] == "let":
            return self.behind(within(tree[2]), lambda a: within(tree[3], **{tree[1]: a}))
        if tree[0] == "if":
            return self.behind(within(tree[1]), lambda c: within(tree[2] if c != 0 else tree[3]))
        if tree[0] == "guard":
            return self.behind(within(tree[1]), lambda c: self.guard(c, lambda: within(tree[2])))
        if tree[0] == "call":
            return self.parts(tree[3], env, block, lambda *numbers: self.call(tree, block, numbers))
        if tree[0] == "handle":
            return self.behind(within(tree[2]), lambda s: self.under(tree[1], s, within(tree[3])))
        return self.parts(tree[-2:] if tree[0] == "go" else tree[-1:], env, block, lambda *all: self.asked(tree, all))

    def op(self, sign, a, b):
        number = {"+": a + b, "-": a - b, "*": a * b, "<": int(a < b)}[sign]
        if not -10**18 <= number <= 10**18:
            raise Over("great")
        return ("told", number)

    def guard(self, number, b):
        self.record.append(("guard", number))

        def clean():
            self.record.append(("clean", number))

        def told(answer):
            clean()
            return ("told", answer)

        return self.behind(b(), told, clean)

    def call(self, tree, block, numbers):
        self.turn()
        item = named(self.program, block.get(tree[1], tree[1]))
        handed = {} if item[3] is None else {item[3]: block.get(tree[2], tree[2])}
        return self.tree(item[4], dict(zip(item[2], numbers)), handed)

    def asked(self, tree, numbers):
        """A do or a go, when its parts are done."""
        self.turn()
        if tree[0] == "do":
            self.record.append(("do", tree[1], numbers[0]))
        names = (tree[1],) if tree[0] == "do" else ()
        return (tree[0],) + names + numbers + (lambda answer: ("told", answer), lambda: None)

    def under(self, h, kept, out):
        """What comes of something under a handler."""
        item = named(self.program, h)
        if out[0] == "told":
            return self.tree(item[3][2], {item[3][0]: out[1], item[3][1]: kept}, {})
        for d, x, s, body in item[2]:
            if d == out[1]:
                return self.clause(self.tree(body, {x: out[2], s: kept}, {}), h, out, False)
        return out[:3] + (lambda answer: self.under(h, kept, out[3](answer)), out[4])

    def clause(self, out, h, held, went):
        """What comes of a clause of a handler, out being what came of its body so far."""
        if out[0] == "told":
            if not went:
                held[4]()
            return out
        if out[0] == "go":
            gone = self.under(h, out[2], held[3](out[1]))
            return self.behind(gone, lambda number: self.clause(out[3](number), h, held, True), out[4])

        def clean():
            out[4]()
            if not went:
                held[4]()

        return out[:3] + (lambda answer: self.clause(out[3](answer), h, held, went), clean)


def second_run(program, f, numbers, answers, turns):
    """The end, the record and the turns taken of a run (points 16 to 19)."""
    return SecondRun(program, answers, turns).whole(f, numbers)


class SecondMachine:
    """Point 24 once more, with frames that are changed where they stand and copied one by one."""

    def __init__(self, code, answers, turns):
        self.parts, self.handlers = code
        self.answers, self.turns = list(answers), turns
        self.frames, self.record, self.used, self.copied = [], [], 0, 0

    def whole(self, numbers):
        self.put(0, list(numbers), [0] * len(self.parts[0][1]))
        try:
            while True:
                frame = self.frames[-1]
                row = self.parts[frame["part"]][2][frame["at"]]
                frame["at"] += 1
                getattr(self, "do_" + row[0])(frame, *row[1:])
        except Over as over:
            return over.args, self.record, self.used, self.copied

    def put(self, part, known, who, **more):
        self.frames.append({"part": part, "at": 0, "known": known, "told": [], "guards": [], "who": who, **more})

    def place(self, number):
        """The place in the row of the handler that stands by a number."""
        return [at for at, frame in enumerate(self.frames) if "kept" in frame][number - 1]

    def turn(self):
        if self.used == self.turns:
            raise Over("spent")
        self.used += 1

    def do_num(self, frame, number):
        frame["told"].append(number)

    def do_get(self, frame, at):
        frame["told"].append(frame["known"][at])

    def do_op(self, frame, sign):
        b, a = frame["told"].pop(), frame["told"].pop()
        number = {"+": a + b, "-": a - b, "*": a * b, "<": int(a < b)}[sign]
        if abs(number) > 10**18:
            raise Over("great")
        frame["told"].append(number)

    def do_keep(self, frame):
        frame["known"].append(frame["told"].pop())

    def do_drop(self, frame):
        frame["known"].pop()

    def do_unless(self, frame, at):
        if frame["told"].pop() == 0:
            frame["at"] = at

    def do_skip(self, frame, at):
        frame["at"] = at

    def do_guard(self, frame):
        frame["guards"].append(frame["told"].pop())
        self.record.append(("guard", frame["guards"][-1]))

    def do_clean(self, frame):
        self.record.append(("clean", frame["guards"].pop()))

    def do_call(self, frame, part, count, picks):
        numbers = [frame["told"].pop() for number in range(count)][::-1]
        self.turn()
        self.put(part, numbers, [frame["who"][pick] for pick in picks])

    def do_under(self, frame, handler, part, needs, picks):
        kept = frame["told"].pop()
        self.frames.append({"handler": handler, "kept": kept, "who": [frame["who"][need] for need in needs]})
        number = len([one for one in self.frames if "kept" in one])
        who = [number if pick == -1 else frame["who"][pick] for pick in picks]
        self.put(part, list(frame["known"]), who)

    def do_do(self, frame, place):
        number, who, deed = frame["told"].pop(), frame["who"][place], self.parts[frame["part"]][1][place]
        self.turn()
        self.record.append(("do", deed, number))
        if who == 0:
            if not self.answers:
                raise Over("asks", deed, number)
            frame["told"].append(self.answers.pop(0))
            return
        at = self.place(who)
        handler = self.frames[at]
        ((kind, part),) = [clause[1:] for clause in self.handlers[handler["handler"]][2] if clause[0] == deed]
        more = {"jumps": who}
        if kind == "take":
            more = {"held": self.frames[at:], "went": False, "marked": False}
            self.frames = self.frames[:at]
        self.put(part, [number, handler["kept"]], list(handler["who"]), **more)

    def do_go(self, frame, last):
        s, a = frame["told"].pop(), frame["told"].pop()
        self.turn()
        frame["went"] = True
        held = frame["held"]
        if not last or frame["marked"]:
            held = [self.copy(one) for one in held]
        held[0]["kept"] = s
        held[-1]["told"].append(a)
        self.frames += held

    def copy(self, frame):
        self.copied += 1
        if "held" in frame:
            frame["marked"] = True
        return {key: list(value) if type(value) is list and key != "held" else value for key, value in frame.items()}

    def do_jump(self, frame):
        s, a = frame["told"].pop(), frame["told"].pop()
        self.turn()
        self.frames.pop()
        self.frames[self.place(frame["jumps"])]["kept"] = s
        self.frames[-1]["told"].append(a)

    def do_give(self, frame):
        (number,) = frame["told"]
        self.frames.pop()
        self.clean(frame)
        if not self.frames:
            raise Over("done", number)
        beneath = self.frames[-1]
        if "kept" in beneath:
            self.frames.pop()
            self.put(self.handlers[beneath["handler"]][3], [number, beneath["kept"]], list(beneath["who"]))
        else:
            beneath["told"].append(number)

    def clean(self, frame):
        """Cleans what a frame holds, where it is a clause's that never went on."""
        if "held" in frame and not frame["went"]:
            for one in reversed(frame["held"]):
                self.record += [("clean", number) for number in reversed(one.get("guards", []))]
                self.clean(one)


def second_run_code(code, numbers, answers, turns):
    """The end, the record, the turns taken and the frames copied of a run of code (point 24)."""
    return SecondMachine(code, answers, turns).whole(numbers)


def all_clauses(program):
    """The pairs of a handler and a deed that it has a clause for."""
    return [(item[1], clause[0]) for item in program if item[0] == "handler" for clause in item[2]]


def second_steady(program, h):
    """Whether a handler is steady (point 26)."""

    def goes(tree, name, hidden):
        if tree[0] == "go":
            yield not hidden and tree[2] == ("var", name)
        for k, part in enumerate(direct_parts(tree)):
            yield from goes(part, name, hidden or tree[0] == "let" and k == 1 and tree[1] == name)

    item = named(program, h)
    x, s, end = item[3]
    clauses = [body_ends_at_go(body) and all(goes(body, s, False)) for d, x_, s, body in item[2]]
    return all(clauses) and end == ("var", x)


def second_may_turn(program, one, other):
    """Whether two handlers may be turned (point 26)."""
    first, second = clause_deeds(program, one), clause_deeds(program, other)
    rows = open_rows(program)
    apart = not first & second and not set(rows[one][0]) & second and not set(rows[other][0]) & first
    return apart and second_steady(program, one)


def remade(program, change):
    """A program whose bodies are changed."""
    items = []
    for item in program:
        if item[0] == "def":
            items.append(item[:4] + (change(item[4], item[3]),))
        else:
            clauses = tuple(clause[:3] + (change(clause[3], None),) for clause in item[2])
            items.append(item[:2] + (clauses, item[3][:2] + (change(item[3][2], None),)))
    return tuple(items)


def parts_changed(tree, change):
    """An expression whose parts are changed."""
    if tree[0] == "call":
        return tree[:3] + (tuple(change(part) for part in tree[3]),)
    return tuple(change(thing) if isinstance(thing, tuple) else thing for thing in tree)


def second_turned(program, one, other):
    """A program in which two handlers are turned (point 27)."""

    def change(tree, block=None):
        if tree[:2] == ("handle", one) and tree[3][:2] == ("handle", other):
            if tree[2][0] in ("num", "var") and tree[3][2][0] in ("num", "var"):
                return ("handle", other, tree[3][2], ("handle", one, tree[2], change(tree[3][3])))
        return parts_changed(tree, change)

    return remade(program, change)


def second_eased(program):
    """A program that is eased (point 28)."""
    table = open_rows(program)
    every = set(all_deeds(program))

    def change(tree, block):
        if tree[0] == "handle" and tree[2][0] == "num":
            # With all deeds for the block, what is let comes out, too.
            if not comes_out(tree[3], program, table, block, every) & clause_deeds(program, tree[1]):
                x, s, end = named(program, tree[1])[3]
                return ("let", x, change(tree[3], block), ("let", s, tree[2], end))
        return parts_changed(tree, lambda part: change(part, block))

    return remade(program, change)


KINDS = ("op", "let", "if", "call", "call", "call", "do", "do", "guard")
# Of these programs are made that come further, and do more deeds, ahead of their turns' end.
LIVELY = ("op", "op", "let", "if", "call", "do", "do", "do", "do", "guard", "guard")


class Maker:
    """Makes programs by chance, the same ones for the same seed, that check lets by.

    kinds are the expressions that are made everywhere, answers how likely a handler answers a deed,
    goes how many times likelier a go stands in a clause than another expression.
    """

    def __init__(
        self,
        seed,
        deeds=("a", "b", "c"),
        functions=3,
        handlers=2,
        depth=4,
        blocks=True,
        kinds=KINDS,
        answers=0.4,
        goes=2,
    ):
        self.chance = random.Random(seed)
        self.kinds = kinds
        self.answers = answers
        self.goes = goes
        self.deeds = deeds
        self.depth = depth
        self.handlers = ["h" + letter for letter in "abcdefgh"[:handlers]]
        self.functions = {}
        for letter in "abcdefgh"[:functions]:
            params = ("x", "y", "z")[: self.chance.randrange(4)]
            block = self.chance.choice((None, "p", "q")) if blocks else None
            self.functions["f" + letter] = (params, block)
        # So that there is always one to be handed on.
        self.functions["g"] = (("n",), None)

    def program(self):
        items = [self.handler(name) for name in self.handlers]
        for name, (params, block) in self.functions.items():
            items.append(("def", name, params, block, self.body(params, block, "free", self.depth)))
        self.chance.shuffle(items)
        return tuple(items)

    def handled(self):
        """A program with one function more, m, whose body is handled by every handler, often by some twice."""
        program = self.program()
        body = self.body(("x",), None, "free", self.depth)
        for h in self.handlers + self.chance.choices(self.handlers, k=2):
            s = self.leaf(("x",))
            body = ("handle", h, s, body)
            if self.chance.random() < 0.5:
                body = self.chance.choice((("guard", s, body), ("op", "+", body, ("do", self.deeds[0], s))))
        return program + (("def", "m", ("x",), None, body),)

    def handler(self, name):
        deeds = [deed for deed in self.deeds if self.chance.random() < self.answers]
        clauses = [(deed, "x", "s", self.body(("x", "s"), None, "clause", self.depth - 1)) for deed in deeds]
        return ("handler", name, tuple(clauses), ("x", "s", self.body(("x", "s"), None, "end", self.depth - 2)))

    def body(self, known, block, place, depth):
        """An expression; place is where it stands: in a clause, in an end, or, free, in neither or handled."""
        if depth <= 0 or self.chance.random() < 0.15:
            return self.leaf(known)

        def part():
            return self.body(known, block, place, depth - 1)

        kinds = list(self.kinds)
        kinds += ["handle", "handle"] if place != "end" and self.handlers else []
        kinds += ["go"] * self.goes if place == "clause" else []
        kind = self.chance.choice(kinds)
        if kind == "op":
            return ("op", self.chance.choice("+-*<"), part(), part())
        if kind == "let":
            name = self.chance.choice(("x", "v", "p"))
            return ("let", name, part(), self.body(known + (name,), block, place, depth - 1))
        if kind == "if":
            return ("if", part(), part(), part())
        if kind == "call":
            return self.call(block, part)
        if kind == "do":
            return ("do", self.chance.choice(self.deeds), part())
        if kind == "handle":
            return ("handle", self.chance.choice(self.handlers), part(), self.body(known, block, "free", depth - 1))
        return (kind, part(), part())

    def leaf(self, known):
        if known and self.chance.random() < 0.6:
            return ("var", self.chance.choice(known))
        return ("num", self.chance.choice((0, 1, 2, 7, 999999999999999999)))

    def call(self, block, part):
        own = [block] if block is not None else []
        name = self.chance.choice(own + list(self.functions))
        if name == block:
            return ("call", name, None, (part(),))
        params, takes = self.functions[name]
        handed = [name for name, (params, block) in self.functions.items() if len(params) == 1 and block is None]
        args = tuple(part() for param in params)
        return ("call", name, None if takes is None else self.chance.choice(own + handed), args)


class TurnMaker(Maker):
    """Makes programs in which the handler ha is steady, and may mostly be turned with hb."""

    def __init__(self, seed, depth):
        Maker.__init__(self, seed, deeds=("a", "b", "c", "d"), depth=depth, kinds=LIVELY, goes=5)
        self.answered = {"ha": self.chance.choice((["a"], ["a", "c"], [])), "hb": ["b"]}

    def turnable(self):
        """A program with one function more, t, in which handles of hb stand at once in such of ha."""
        program = self.handled()
        body = self.body(("x",), None, "free", 3)
        for count in range(self.chance.randrange(1, 4)):
            body = ("handle", "ha", self.leaf(("x",)), ("handle", "hb", self.leaf(("x",)), body))
            body = self.chance.choice((body, ("guard", ("num", 3), body), ("op", "+", ("num", 1), body)))
        return program + (("def", "t", ("x",), None, body),)

    def handler(self, name):
        # Its clauses do no deed but d, so that neither does what the other one answers.
        kept = self.deeds, self.kinds, self.handlers
        self.deeds, self.kinds, self.handlers = ("d",), ("op", "let", "if", "do", "guard"), []
        clauses = tuple((deed, "x", "s", self.clause(name)) for deed in self.answered[name])
        end = ("var", "x") if name == "ha" else self.body(("x", "s"), None, "end", 2)
        self.deeds, self.kinds, self.handlers = kept
        return ("handler", name, clauses, ("x", "s", end))

    def clause(self, name):
        if name != "ha":
            return self.body(("x", "s"), None, "clause", 3)
        go = ("go", self.body(("x", "s"), None, "free", 2), ("var", "s"))
        other = ("let", "y", self.body(("x", "s"), None, "free", 1), ("go", ("var", "y"), ("var", "s")))
        return self.chance.choice((go, other, ("if", self.leaf(("x", "s")), go, other)))
