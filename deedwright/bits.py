"""The deeds of a program, and rows of them as whole numbers: bit k stands for deed k."""

from deedwright.trees import all_within, bodies_of


def deeds_of(program):
    """The deeds of a program, those done and those of clauses, sorted, each once."""
    found = []
    for item in program:
        if item[0] == "handler":
            found.extend([clause[0] for clause in item[2]])
        for body in bodies_of(item):
            found.extend([tree[1] for tree in all_within(body) if tree[0] == "do"])
    return sorted(set(found))


def bits_by_deed(deeds):
    """For each of the deeds the row that has it alone."""
    bits = {}
    bit = 1
    for deed in deeds:
        bits[deed] = bit
        bit = bit << 1
    return bits


def row_by(some, deeds):
    """The row of some of the deeds, which may come in any order and twice."""
    bits = bits_by_deed(deeds)
    row = 0
    for deed in some:
        row = row | bits[deed]
    return row


def told(row, deeds):
    """The list of the deeds of a row."""
    found = []
    left = row
    for deed in deeds:
        if (left & 1) == 1:
            found.append(deed)
        left = left >> 1
    return found


def less(row, other):
    """The row of the deeds that the other row has not."""
    return row & ~other
