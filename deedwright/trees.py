"""The forms that programs are made of: tuples, texts, whole numbers and None alone.

A program is a tuple of items, which are
    ("def", f, params, block, body)     params a tuple of names, block a name or None
    ("handler", h, clauses, end)        clauses a tuple of (d, x, s, body), end (x, s, body)
and a body is an expression: a tuple of a word and of what FORMS tells for that word.
"""

WORDS = ("def", "handler", "on", "end", "let", "if", "call", "hand", "do", "handle", "go", "guard")
SIGNS = ("+", "-", "*", "<")
LETTERS = "abcdefghijklmnopqrstuvwxyz"
LONGEST_NAME = 8
FIGURES = "0123456789"
MOST_FIGURES = 18

# A "part" is an expression, "parts" a tuple of them, a "block" a name or None.
FORMS = {
    "num": ("number",),
    "var": ("name",),
    "op": ("sign", "part", "part"),
    "let": ("name", "part", "part"),
    "if": ("part", "part", "part"),
    "call": ("name", "block", "parts"),
    "do": ("name", "part"),
    "handle": ("name", "part", "part"),
    "go": ("part", "part"),
    "guard": ("part", "part"),
}
# In all forms but that of a call the parts stand behind all else: from this place on.
FIRST_PART = {"num": 2, "var": 2, "op": 2, "let": 2, "if": 1, "do": 2, "handle": 2, "go": 1, "guard": 1}
CLAUSE_FORM = ("name", "name", "name", "part")
END_FORM = ("name", "name", "part")


def is_name(word):
    """Whether a text may be the name of something."""
    if word == "" or len(word) > LONGEST_NAME or word in WORDS:
        return False
    return all([sign in LETTERS for sign in word])


def is_number(word):
    """Whether a text writes a number: by figures, no nought ahead but in 0 itself."""
    if word == "" or len(word) > MOST_FIGURES or (word[0] == "0" and word != "0"):
        return False
    return all([sign in FIGURES for sign in word])


def parts_of(tree):
    """The parts of an expression, from left to right."""
    if tree[0] == "call":
        return tree[3]
    return tree[FIRST_PART[tree[0]] :]


def with_parts(tree, parts):
    """An expression with other parts, as many as it has, in the place of its own."""
    if tree[0] == "call":
        return tree[:3] + (tuple(parts),)
    return tree[: FIRST_PART[tree[0]]] + tuple(parts)


def all_within(tree):
    """An expression with all its parts and theirs, in an order of its own."""
    # By a loop, so that no depth is too much.
    found = []
    waiting = [tree]
    while waiting != []:
        one = waiting.pop()
        found.append(one)
        waiting.extend(parts_of(one))
    return found


def bodies_of(item):
    """The bodies of an item, those of clauses in their order and that of the end last."""
    if item[0] == "def":
        return (item[4],)
    return tuple([clause[3] for clause in item[2]]) + (item[3][2],)


def with_bodies(item, bodies):
    """An item with other bodies, in the order of bodies_of, in the place of its own."""
    if item[0] == "def":
        return item[:4] + (bodies[0],)
    clauses = [clause[:3] + (body,) for clause, body in zip(item[2], bodies)]
    return item[:2] + (tuple(clauses), item[3][:2] + (bodies[-1],))


def own_block(item):
    """The name of an item's block, or None: a handler has none."""
    return item[3] if item[0] == "def" else None


def stands_for(name, block):
    """What a name that is called or handed on, or None, stands for.

    block is a pair: the name of the own block there and the function that was handed on, or None twice.
    """
    return block[1] if name == block[0] else name


def items_by_name(program):
    """The items of a program by their names."""
    return dict([(item[1], item) for item in program])
