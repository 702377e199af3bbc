"""Whole numbers as rows of bits: rests, noughts at the end, signs."""


def power_of_two(bits):
    power = 1
    for step in range(bits):
        power = power * 2
    return power


def rest(v, bits):
    return v % power_of_two(bits)


def zeros(v):
    # 2 goes into 0 without end; the document sets it at 32.
    if v == 0:
        return 32
    count = 0
    left = abs(v)
    while left % 2 == 0:
        left = left // 2
        count = count + 1
    return count


def signed(v, bits):
    if v < power_of_two(bits - 1):
        return v
    return v - power_of_two(bits)
