"""Finds for each item the least open row that fits.

Within this file rows are open rows of whole numbers, in dicts by the items' names; a table has
the same as lists of deeds.
"""

from deedwright.bits import bits_by_deed, deeds_of, row_by, told
from deedwright.openrows import filled, joined, opened, within, without
from deedwright.rest import clause_rows, rest_of, rests_of


class Found:
    """The found rows of a program, with what the rows of its expressions are found by.

    deeds is the list of its deeds, every the row of all of them, clauses has for each handler the
    row of the deeds that it has a clause for, rows the items' open rows.
    """

    def __init__(self, program):
        self.deeds = deeds_of(program)
        self.every = row_by(self.deeds, self.deeds)
        self.clauses = clause_rows(program, bits_by_deed(self.deeds))
        self.rows = found_rows(program, self.deeds)


def open_rows(program):
    """The found table: for each item the sorted lists of its own deeds and of those that it lets."""
    found = Found(program)
    table = {}
    for name in found.rows:
        row = found.rows[name]
        table[name] = (told(row[0], found.deeds), told(row[1], found.deeds))
    return table


def fits(program, table):
    """Whether each row of a table holds what comes out of its item's bodies by that table."""
    deeds = deeds_of(program)
    rows = {}
    for name in table:
        rows[name] = opened(row_by(table[name][0], deeds), row_by(table[name][1], deeds))
    asked = asked_rows(rests_of(program, deeds), rows, row_by(deeds, deeds))
    return all([within(asked[name], rows[name]) for name in asked])


def row_of(program, name, block=None):
    """The sorted list of an item's row, where for its block, if it has one, a function is handed on."""
    found = Found(program)
    return told(spot_row(found, name, block), found.deeds)


def found_rows(program, deeds):
    """The rows that fit and are within all others that do."""
    rests = rests_of(program, deeds)
    every = row_by(deeds, deeds)
    rows = dict([(name, (0, 0)) for name in rests])
    asked = asked_rows(rests, rows, every)
    # Begun with nothing, rows only grow, and never beyond rows that fit: so the first ones that ask
    # for no more are the least.
    while asked != rows:
        rows = asked
        asked = asked_rows(rests, rows, every)
    return rows


def asked_rows(rests, rows, every):
    """For each item what comes out of its bodies, by the rows of all items."""
    asked = {}
    for name in rests:
        asked[name] = bodies_row(rests[name], rows, every)
    return asked


def bodies_row(rest, rows, every):
    """What comes out of an item's bodies, every being the row of all deeds."""
    row = (rest.done, 0)
    for tree, answered in rest.uses:
        row = joined(row, without(use_row(tree, rest.block, rows, every), answered))
    return row


def tree_row(found, tree, block):
    """The open row of an expression by the found rows, block being the own block there, or None."""
    rest = rest_of((tree,), block, found.clauses, bits_by_deed(found.deeds))
    return bodies_row(rest, found.rows, found.every)


def spot_row(found, name, handed):
    """The row of an item, where for its block, if it has one, a function is handed on, else None."""
    return filled(found.rows[name], 0 if handed is None else found.rows[handed][0])


def use_row(tree, block, rows, every):
    """What a call or a handle brings, besides its parts."""
    if tree[0] == "handle":
        return (rows[tree[1]][0], 0)
    called = tree[1]
    handed = tree[2]
    if called == block:
        return (0, every)
    if handed is None:
        return (rows[called][0], 0)
    if handed == block:
        return rows[called]
    return (filled(rows[called], rows[handed][0]), 0)
