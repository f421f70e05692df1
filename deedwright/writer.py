"""Writes the text of a program: an item in one row, single blanks, the items parted by line ends.

An expression's things are the words and expressions that stand in its brackets, in the text's order.
"""


def shown(program):
    """The text that writes a program."""
    return "\n".join([item_text(item) for item in program])


def item_text(item):
    """The text of a function or a handler."""
    return function_text(item) if item[0] == "def" else handler_text(item)


def function_text(item):
    """The text of a function."""
    words = ["def", item[1], bracketed(item[2])]
    if item[3] is not None:
        words.append(item[3])
    words.append(expression_text(item[4]))
    return bracketed(words)


def handler_text(item):
    """The text of a handler."""
    clauses = [headed_text("on", clause) for clause in item[2]]
    return bracketed(["handler", item[1]] + clauses + [headed_text("end", item[3])])


def headed_text(word, things):
    """The text of a clause or an end, whose last thing is its body and whose others are names."""
    return bracketed([word] + list(things[:-1]) + [expression_text(things[-1])])


def bracketed(words):
    """Words in brackets, a blank between two of them."""
    return "(" + " ".join(words) + ")"


def expression_text(tree):
    """The text of an expression."""
    # By a loop over what still waits to be written, so that no depth is too much.
    pieces = []
    waiting = [tree]
    while waiting != []:
        thing = waiting.pop()
        if isinstance(thing, str):
            pieces.append(thing)
        elif thing[0] in ("num", "var"):
            pieces.append(str(thing[1]))
        else:
            waiting.extend(list(reversed(spread(things_of(thing)))))
    return "".join(pieces)


def spread(things):
    """Things with the brackets round them and the blanks between, each by itself."""
    row = ["("]
    for thing in things:
        row.append(thing)
        row.append(" ")
    return row[:-1] + [")"]


def things_of(tree):
    """The things of an expression that stands in brackets."""
    if tree[0] == "op":
        return tree[1:]
    if tree[0] == "call":
        return call_things(tree)
    return tree


def call_things(tree):
    """The things of a call, which is a hand in the text where it hands a block on."""
    if tree[2] is None:
        return ("call", tree[1]) + tree[3]
    return ("hand", tree[1], tree[2]) + tree[3]
