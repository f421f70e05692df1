"""What a clause's body does with what it holds: goes on never, as a jump, once, or many times."""

from deedwright.trees import all_within, parts_of


def kind_of(E):
    """Of a clause's body: "never", "jump", "once" or "many"."""
    if not has_go(E):
        return "never"
    if ends_at_go(E):
        return "jump"
    return "once" if all(lasts(E)) else "many"


def lasts(E):
    """For each go of a clause's body, in the order of their rows in code, whether it is last."""
    # From the right to the left, each expression ahead of its parts: just the other way round than
    # their rows stand.
    found = []
    waiting = [(E, False)]
    while waiting != []:
        looked = waiting.pop()
        if looked[0][0] == "go":
            found.append(not looked[1])
        waiting.extend(inner(looked[0], looked[1]))
    return list(reversed(found))


def inner(tree, followed):
    """The parts of an expression, from left to right, each with whether a go may be done behind it.

    followed is whether one may be done behind the expression.
    """
    after = followed or tree[0] == "go"
    parts = []
    for part in reversed(parts_of(tree)):
        parts.append((part, after))
        after = after or has_go(part)
    if tree[0] == "if":
        # The other branch is not done behind this one.
        parts[1] = (tree[2], followed)
    return list(reversed(parts))


def ends_at_go(tree):
    """Whether, on each way through a body, the one go that is done is the last thing of all."""
    waiting = [tree]
    while waiting != []:
        one = waiting.pop()
        if one[0] == "let" and not has_go(one[2]):
            waiting.append(one[3])
        elif one[0] == "if" and not has_go(one[1]):
            waiting.extend(one[2:])
        elif one[0] != "go" or has_go(one[1]) or has_go(one[2]):
            return False
    return True


def has_go(tree):
    """Whether a go stands in an expression."""
    return any([part[0] == "go" for part in all_within(tree)])
