"""What the four signs tell of two numbers, for both runners."""

# What + - * tell must not lie beyond this, on either side of 0.
GREATEST = 1000000000000000000


def reckoned(sign, a, b):
    """What a sign tells of two numbers; None where that is too great."""
    if sign == "<":
        return 1 if a < b else 0
    if sign == "+":
        told = a + b
    elif sign == "-":
        told = a - b
    else:
        told = a * b
    return None if abs(told) > GREATEST else told
