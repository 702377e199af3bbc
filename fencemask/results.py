"""What instructions do: which box they make, of which values what value, and where no run goes on behind."""

from fencemask.bits import power_of_two, rest

# All other sorts make the box that they name first something.
MAKING_NONE = ("stop", "store", "jump", "jumpif", "through", "gate")

# Behind these no run goes on, so that one of them ends a guest's block, and the code.
LAST_SORTS = ("stop", "jump", "through")


def made_box(instruction):
    if instruction[0] in MAKING_NONE:
        return None
    return instruction[1]


def joined_value(sort, b, c):
    if sort == "add":
        return rest(b + c, 32)
    if sort == "sub":
        return rest(b - c, 32)
    if sort == "and":
        return b & c
    if sort == "or":
        return b | c
    if sort == "xor":
        return b ^ c
    if sort == "less":
        return 1 if b < c else 0
    # What is moved by t bits is multiplied, or parted, by 2 ** t.
    power = power_of_two(rest(c, 5))
    if sort == "left":
        return rest(b * power, 32)
    return b // power


def fit_value(plan, b):
    return plan[1] + rest(b, plan[0])


def aim_value(plan, b):
    return rest(b, plan[2]) * 8 * power_of_two(plan[3])


def made_value(plan, instruction, boxes):
    """What an instruction that makes a box something, but no load, makes of the boxes' values."""
    sort = instruction[0]
    if sort == "put":
        return instruction[2]
    b = boxes[instruction[2]]
    if sort == "more":
        return rest(b + instruction[3], 32)
    if sort == "fit":
        return fit_value(plan, b)
    if sort == "aim":
        return aim_value(plan, b)
    return joined_value(sort, b, boxes[instruction[3]])
