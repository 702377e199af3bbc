"""Spans: the values that a box may hold, and what comes of them.

A span is a tuple (lo, hi, z): the multiples of 2 ** z from lo to hi.
"""

from fencemask.bits import power_of_two, rest, zeros
from fencemask.results import aim_value, joined_value


def whole_span():
    return (0, 2 ** 32 - 1, 0)


def multiples_span(z):
    return (0, 2 ** 32 - power_of_two(z), z)


def single(v):
    return (v, v, zeros(v))


def is_single(span):
    return span[0] == span[1]


def is_in(v, span):
    return span[0] <= v and v <= span[1] and rest(v, span[2]) == 0


def settled_span(lo, hi, z):
    # One value has one span alone, whichever way it came.
    if lo == hi:
        return single(lo)
    return (lo, hi, z)


def kept_span(lo, hi, z):
    # What passes an end comes in again at the other one, but stays a multiple.
    if lo < 0 or hi >= 2 ** 32:
        return multiples_span(z)
    return settled_span(lo, hi, z)


def add_span(left, right):
    return kept_span(left[0] + right[0], left[1] + right[1], min(left[2], right[2]))


def sub_span(left, right):
    return kept_span(left[0] - right[1], left[1] - right[0], min(left[2], right[2]))


def and_span(left, right):
    z = max(left[2], right[2])
    hi = min(left[1], right[1])
    return settled_span(0, hi - rest(hi, z), z)


def or_span(left, right, lo):
    # No bit is set beyond the greatest one that an end has.
    z = min(left[2], right[2])
    power = power_of_two(z)
    while left[1] >= power or right[1] >= power:
        power = power * 2
    return settled_span(lo, power - power_of_two(z), z)


def less_span(left, right):
    if left[1] < right[0]:
        return single(1)
    if left[0] >= right[1]:
        return single(0)
    return (0, 1, 0)


def left_span(left, right):
    if not is_single(right):
        return whole_span()
    t = rest(right[0], 5)
    power = power_of_two(t)
    return kept_span(left[0] * power, left[1] * power, min(32, left[2] + t))


def right_span(left, right):
    if not is_single(right):
        return settled_span(0, left[1], 0)
    t = rest(right[0], 5)
    power = power_of_two(t)
    return settled_span(left[0] // power, left[1] // power, max(0, left[2] - t))


def joined_span(sort, left, right):
    # These two stand ahead: of one value each, too, they tell all multiples where they pass an end.
    if sort == "add":
        return add_span(left, right)
    if sort == "sub":
        return sub_span(left, right)
    if is_single(left) and is_single(right):
        return single(joined_value(sort, left[0], right[0]))
    if sort == "and":
        return and_span(left, right)
    if sort == "or":
        return or_span(left, right, max(left[0], right[0]))
    if sort == "xor":
        return or_span(left, right, 0)
    if sort == "less":
        return less_span(left, right)
    if sort == "left":
        return left_span(left, right)
    return right_span(left, right)


def more_span(span, n):
    return kept_span(span[0] + n, span[1] + n, min(span[2], zeros(n)))


def fit_span(plan, span):
    base = plan[1]
    size = power_of_two(plan[0])
    if base <= span[0] and span[1] < base + size:
        return span
    z = min(span[2], zeros(base))
    return settled_span(base, base + size - 1 - rest(size - 1, z), z)


def aim_span(plan, span):
    if is_single(span):
        return single(aim_value(plan, span[0]))
    last_block = power_of_two(plan[2]) - 1
    return settled_span(0, aim_value(plan, last_block), plan[3] + 3)
