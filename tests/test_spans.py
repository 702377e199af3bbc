import unittest

from fencemask.spans import aim_span, fit_span, is_in, joined_span, more_span, single, whole_span
from helper import ALL, THREE_BOXES, TOP, W, Numbers, joined, multiples

ZERO = (0, 0, 32)


def one(v):
    """The span of one value, told by its bits."""
    return (v, v, len(f"{v:b}") - len(f"{v:b}".rstrip("0")) if v else 32)


def is_span(span):
    lo, hi, z = span
    whole = all(type(part) is int for part in span)
    fits = 0 <= lo <= hi < W and 0 <= z <= 32 and lo % 2 ** z == 0 and hi % 2 ** z == 0
    return type(span) is tuple and whole and fits and (lo < hi or span == one(lo))


def some_values(span, numbers):
    """Values of a span: its ends, those beside them, and some between."""
    lo, hi, z = span
    count = (hi - lo) // 2 ** z
    steps = {0, 1, 2, 3, count - 2, count - 1, count} | {numbers.below(count + 1) for step in range(4)}
    return [lo + step * 2 ** z for step in sorted(steps) if 0 <= step <= count]


def some_spans():
    spans = [
        ALL, (0, 1, 0), (1, 2, 0), (0, 7, 0), (0, 8, 0), (5, 13, 0), (1, TOP, 0), (0, TOP - 1, 0),
        (TOP - 2, TOP, 0),
    ]
    for v in (0, 1, 2, 3, 4, 7, 8, 12, 31, 32, 33, 40, 2 ** 31 - 1, 2 ** 31, W - 8, W - 2, TOP):
        spans.append(one(v))
    for z in (1, 2, 3, 5, 16, 30, 31):
        step = 2 ** z
        spans.append(multiples(z))
        spans.append((0, step, z))
        if z < 31:
            spans.append((step, 3 * step, z))
            spans.append((W - 3 * step, W - step, z))
    return spans


class Told(unittest.TestCase):
    def told(self, pairs, ask):
        for asked, span in pairs:
            with self.subTest(asked=asked):
                self.assertTrue(is_span(span))
                answer = ask(*asked)
                self.assertEqual(answer, span)
                self.assertIs(type(answer), tuple)
                self.assertEqual(ask(*asked), span)

    def joins(self, sort, pairs):
        self.told(pairs, lambda left, right: joined_span(sort, left, right))


class Plain(Told):
    def test_whole_span(self):
        self.assertEqual(whole_span(), (0, 4294967295, 0))
        self.assertTrue(is_span(whole_span()))

    def test_single_written_out(self):
        asked = (
            (0, (0, 0, 32)), (1, (1, 1, 0)), (2, (2, 2, 1)), (3, (3, 3, 0)), (6, (6, 6, 1)), (40, (40, 40, 3)),
            (2 ** 31, (2147483648, 2147483648, 31)), (2 ** 32 - 2, (4294967294, 4294967294, 1)),
            (2 ** 32 - 1, (4294967295, 4294967295, 0)),
        )
        self.told([((v,), span) for v, span in asked], single)

    def test_single_of_each_power_of_two(self):
        for power in range(32):
            self.assertEqual(single(2 ** power), (2 ** power, 2 ** power, power))
            self.assertEqual(single(W - 2 ** power), (W - 2 ** power, W - 2 ** power, power))

    def test_is_in(self):
        asked = (
            (ALL, (0, 1, 77, TOP - 1, TOP), ()),
            ((0, 0, 32), (0,), (1, 2, 2 ** 31, TOP)),
            ((1, 1, 0), (1,), (0, 2, TOP)),
            ((5, 9, 0), (5, 6, 7, 8, 9), (0, 4, 10, TOP)),
            ((8, 24, 3), (8, 16, 24), (0, 4, 7, 9, 12, 15, 17, 20, 23, 25, 32)),
            ((4, 12, 2), (4, 8, 12), (0, 2, 5, 6, 10, 11, 16)),
            ((0, 2 ** 31, 31), (0, 2 ** 31), (1, 2 ** 30, 2 ** 31 - 1, 2 ** 31 + 1, TOP)),
            ((W - 8, W - 2, 1), (W - 8, W - 6, W - 4, W - 2), (0, W - 10, W - 9, W - 7, W - 1)),
        )
        for span, within, beyond in asked:
            for v in within:
                self.assertIs(is_in(v, span), True, (v, span))
            for v in beyond:
                self.assertIs(is_in(v, span), False, (v, span))


class Sums(Told):
    def test_add(self):
        self.joins("add", (
            ((one(3), one(5)), (8, 8, 3)),
            ((one(0), one(0)), ZERO),
            ((one(4), one(8)), (12, 12, 2)),
            (((0, 8, 2), one(4)), (4, 12, 2)),
            ((one(4), (0, 8, 2)), (4, 12, 2)),
            (((0, 8, 2), (2, 6, 1)), (2, 14, 1)),
            (((8, 16, 3), (1, 5, 0)), (9, 21, 0)),
            (((0, 8, 2), ZERO), (0, 8, 2)),
            ((ZERO, ALL), ALL),
            ((ALL, ALL), ALL),
        ))

    def test_add_at_the_end_of_all_values(self):
        self.joins("add", (
            (((0, W - 4, 2), one(4)), multiples(2)),
            (((0, W - 8, 2), one(4)), (4, W - 4, 2)),
            (((8, W - 16, 3), (0, 16, 4)), (0, W - 8, 3)),
            (((8, W - 24, 3), (0, 16, 4)), (8, W - 8, 3)),
            (((5, TOP, 0), one(1)), ALL),
            (((5, TOP - 1, 0), one(1)), (6, TOP, 0)),
            ((one(TOP), one(1)), ALL),
            ((one(TOP), one(TOP)), ALL),
            ((one(TOP - 1), one(1)), one(TOP)),
            ((one(2 ** 31), one(2 ** 31)), (0, 2 ** 31, 31)),
            ((one(W - 8), one(8)), (0, W - 8, 3)),
            ((one(W - 8), one(16)), (0, W - 8, 3)),
            ((one(W - 16), one(8)), one(W - 8)),
        ))

    def test_sub(self):
        self.joins("sub", (
            ((one(8), one(3)), (5, 5, 0)),
            ((one(9), one(1)), (8, 8, 3)),
            ((one(8), one(8)), ZERO),
            (((8, 16, 3), one(4)), (4, 12, 2)),
            ((one(16), (0, 8, 2)), (8, 16, 2)),
            (((32, 40, 3), (2, 6, 1)), (26, 38, 1)),
            (((8, 16, 3), ZERO), (8, 16, 3)),
            ((ALL, ZERO), ALL),
            ((ALL, ALL), ALL),
        ))

    def test_sub_at_nought(self):
        self.joins("sub", (
            (((8, 16, 3), (0, 8, 2)), (0, 16, 2)),
            (((4, 16, 2), (0, 8, 2)), multiples(2)),
            (((8, 16, 3), (0, 9, 0)), ALL),
            (((8, 16, 3), one(8)), (0, 8, 3)),
            (((8, 16, 3), one(16)), multiples(3)),
            ((one(3), one(8)), ALL),
            ((one(16), one(24)), multiples(3)),
            ((ZERO, one(8)), multiples(3)),
            ((ZERO, one(2 ** 31)), (0, 2 ** 31, 31)),
            ((ZERO, one(1)), ALL),
            ((one(TOP), ALL), (0, TOP, 0)),
            ((one(TOP - 1), ALL), ALL),
            (((TOP - 1, TOP, 0), (0, TOP - 1, 0)), ALL),
            (((TOP - 1, TOP, 0), (5, TOP - 1, 0)), (0, TOP - 5, 0)),
        ))

    def test_more(self):
        self.told((
            (((4, 8, 2), 4), (8, 12, 2)),
            (((4, 8, 2), 2), (6, 10, 1)),
            (((4, 8, 2), 3), (7, 11, 0)),
            (((4, 8, 2), 16), (20, 24, 2)),
            ((one(5), 3), (8, 8, 3)),
            ((one(5), -1), (4, 4, 2)),
            ((one(5), 2 ** 17 - 1), one(131076)),
            ((one(2 ** 17), -(2 ** 17)), ZERO),
            ((one(2 ** 31), -(2 ** 17)), one(2 ** 31 - 2 ** 17)),
        ), more_span)

    def test_more_by_nought(self):
        self.told([((span, 0), span) for span in some_spans()], more_span)

    def test_more_at_both_ends(self):
        self.told((
            (((4, 8, 2), -4), (0, 4, 2)),
            (((4, 8, 2), -8), multiples(2)),
            (((4, 8, 2), -5), ALL),
            (((8, 16, 3), -12), multiples(2)),
            ((one(5), -5), ZERO),
            ((one(5), -6), multiples(0)),
            ((one(4), -6), multiples(1)),
            ((ZERO, -1), ALL),
            ((ZERO, -8), multiples(3)),
            ((ZERO, -(2 ** 17)), multiples(17)),
            (((4, W - 8, 2), 4), (8, W - 4, 2)),
            (((4, W - 4, 2), 4), multiples(2)),
            (((4, W - 4, 2), 3), (7, TOP, 0)),
            (((8, W - 8, 3), 8), multiples(3)),
            (((8, W - 16, 3), 8), (16, W - 8, 3)),
            ((one(TOP), 1), ALL),
            ((one(TOP - 1), 1), one(TOP)),
            ((one(W - 16), 16), multiples(4)),
            ((one(W - 2 ** 17), 2 ** 17 - 1), one(TOP)),
            ((ALL, 1), ALL),
            ((ALL, -1), ALL),
            ((multiples(3), 8), multiples(3)),
            ((multiples(3), 4), (4, W - 4, 2)),
            ((multiples(3), 7), (7, TOP, 0)),
        ), more_span)


class BitByBit(Told):
    def test_of_one_value_each(self):
        values = (0, 1, 2, 3, 7, 8, 12, 31, 32, 33, 255, 2 ** 16, 2 ** 31 - 1, 2 ** 31, W - 8, TOP - 1, TOP)
        for sort in ("and", "or", "xor", "less", "left", "right"):
            for b in values:
                for c in values:
                    with self.subTest(sort=sort, b=b, c=c):
                        self.assertEqual(joined_span(sort, one(b), one(c)), one(joined(sort, b, c)))

    def test_and(self):
        self.joins("and", (
            ((one(12), one(10)), (8, 8, 3)),
            ((one(4), one(8)), ZERO),
            (((0, 12, 2), (0, 7, 0)), (0, 4, 2)),
            (((0, 7, 0), (0, 12, 2)), (0, 4, 2)),
            (((0, 12, 2), (0, 8, 0)), (0, 8, 2)),
            (((4, 12, 2), (8, 24, 3)), (0, 8, 3)),
            (((16, 32, 4), (0, 15, 0)), ZERO),
            ((one(16), (0, 7, 0)), ZERO),
            (((5, 7, 0), one(4)), (0, 4, 2)),
            ((ALL, one(255)), (0, 255, 0)),
            ((ALL, one(W - 8)), (0, W - 8, 3)),
            ((one(2 ** 31), ALL), (0, 2 ** 31, 31)),
            ((ZERO, ALL), ZERO),
            ((ALL, ZERO), ZERO),
            (((0, 2 ** 31, 31), (0, 2 ** 31 - 1, 0)), ZERO),
            ((ALL, ALL), ALL),
        ))

    def test_or(self):
        self.joins("or", (
            ((one(12), one(3)), (15, 15, 0)),
            ((one(4), (0, 8, 2)), (4, 12, 2)),
            (((0, 8, 2), one(4)), (4, 12, 2)),
            (((2, 6, 1), (4, 8, 2)), (4, 14, 1)),
            (((4, 8, 2), (2, 6, 1)), (4, 14, 1)),
            ((one(16), (0, 16, 4)), (16, 16, 4)),
            (((0, 8, 3), ZERO), (0, 8, 3)),
            (((0, 1, 0), ZERO), (0, 1, 0)),
            ((ALL, ZERO), ALL),
            ((ALL, one(77)), (77, TOP, 0)),
            ((multiples(3), multiples(5)), multiples(3)),
            ((multiples(31), ZERO), multiples(31)),
            ((multiples(31), one(2 ** 31)), (2 ** 31, 2 ** 31, 31)),
        ))

    def test_or_and_xor_at_powers_of_two(self):
        for power in range(1, 32):
            top = 2 ** power
            with self.subTest(power=power):
                for left, right in (((0, top - 1, 0), one(1)), (one(1), (0, top - 1, 0))):
                    self.assertEqual(joined_span("or", left, right), one(1) if top == 2 else (1, top - 1, 0))
                    self.assertEqual(joined_span("xor", left, right), (0, top - 1, 0))
                for left, right in (((0, top, 0), one(1)), (one(1), (0, top, 0))):
                    self.assertEqual(joined_span("or", left, right), (1, 2 * top - 1, 0))
                    self.assertEqual(joined_span("xor", left, right), (0, 2 * top - 1, 0))
                for left, right in (((0, top, power), one(top)), (one(top), (0, top, power))):
                    self.assertEqual(joined_span("or", left, right), one(top))
                    self.assertEqual(joined_span("xor", left, right), (0, top, power))

    def test_xor(self):
        self.joins("xor", (
            ((one(12), one(10)), (6, 6, 1)),
            ((one(9), one(9)), ZERO),
            ((one(4), (4, 8, 2)), (0, 12, 2)),
            (((2, 6, 1), (4, 8, 2)), (0, 14, 1)),
            (((8, 24, 3), (8, 40, 3)), (0, 56, 3)),
            (((8, 24, 3), ZERO), (0, 24, 3)),
            ((ALL, one(77)), ALL),
            ((one(W - 8), (0, 8, 3)), (0, W - 8, 3)),
            ((multiples(31), multiples(31)), multiples(31)),
        ))

    def test_less(self):
        self.joins("less", (
            ((one(3), one(4)), (1, 1, 0)),
            ((one(4), one(4)), ZERO),
            ((one(5), one(4)), ZERO),
            (((0, 7, 0), (8, 9, 0)), (1, 1, 0)),
            (((0, 8, 0), (8, 9, 0)), (0, 1, 0)),
            (((0, 8, 2), one(12)), (1, 1, 0)),
            (((0, 12, 2), one(12)), (0, 1, 0)),
            (((9, 12, 0), (8, 9, 0)), ZERO),
            (((8, 12, 0), (8, 9, 0)), (0, 1, 0)),
            (((12, 16, 2), one(12)), ZERO),
            (((8, 16, 3), one(12)), (0, 1, 0)),
            ((one(8), (0, 8, 3)), ZERO),
            ((one(7), (0, 8, 3)), (0, 1, 0)),
            ((ALL, ZERO), ZERO),
            ((ZERO, ALL), (0, 1, 0)),
            ((ZERO, (1, TOP, 0)), (1, 1, 0)),
            ((one(TOP), ALL), ZERO),
            ((ALL, ALL), (0, 1, 0)),
        ))


class Moved(Told):
    def test_left_by_each_number(self):
        for c in tuple(range(41)) + (64, 77, 2 ** 31, TOP):
            t = c % 32
            with self.subTest(c=c):
                self.assertEqual(joined_span("left", ZERO, one(c)), ZERO)
                self.assertEqual(joined_span("left", one(1), one(c)), one(2 ** t))
                self.assertEqual(joined_span("left", one(TOP), one(c)), one(W - 2 ** t))
                self.assertEqual(joined_span("left", ALL, one(c)), multiples(t))
                small = (0, 2 ** t, t)
                self.assertEqual(joined_span("left", (0, 1, 0), one(c)), small)
                moved = (2 ** (t + 2), 3 * 2 ** (t + 2), t + 2)
                over = multiples(min(32, t + 2))
                self.assertEqual(joined_span("left", (4, 12, 2), one(c)), moved if moved[1] < W else over)

    def test_left_at_the_end_of_all_values(self):
        self.joins("left", (
            (((4, 8, 2), one(28)), (2 ** 30, 2 ** 31, 30)),
            (((4, 8, 2), one(29)), (0, 2 ** 31, 31)),
            (((4, 8, 2), one(30)), ZERO),
            (((4, 8, 2), one(31)), ZERO),
            (((0, 4, 2), one(29)), (0, 2 ** 31, 31)),
            (((0, 2 ** 31 - 1, 0), one(1)), (0, W - 2, 1)),
            (((5, 2 ** 31 - 1, 0), one(1)), (10, W - 2, 1)),
            (((5, 2 ** 31, 0), one(1)), (0, W - 2, 1)),
            (((5, 2 ** 31, 0), one(2)), (0, W - 4, 2)),
            (((0, 2 ** 31, 31), one(1)), ZERO),
            (((0, 2 ** 31, 31), one(0)), (0, 2 ** 31, 31)),
            (((0, 2 ** 31, 31), one(32)), (0, 2 ** 31, 31)),
            (((2 ** 16, 2 ** 17, 16), one(15)), multiples(31)),
            (((2 ** 16, 2 ** 17, 16), one(14)), (2 ** 30, 2 ** 31, 30)),
        ))

    def test_right_by_each_number(self):
        for c in tuple(range(41)) + (64, 77, 2 ** 31, TOP):
            t = c % 32
            with self.subTest(c=c):
                self.assertEqual(joined_span("right", ZERO, one(c)), ZERO)
                self.assertEqual(joined_span("right", one(TOP), one(c)), one(TOP // 2 ** t))
                self.assertEqual(joined_span("right", ALL, one(c)), (0, 2 ** (32 - t) - 1, 0))
                self.assertEqual(joined_span("right", multiples(31), one(c)), (0, 2 ** (31 - t), 31 - t))
                tall = multiples(8)
                told = (0, tall[1] >> t, max(8 - t, 0))
                self.assertEqual(joined_span("right", tall, one(c)), told)

    def test_right_written_out(self):
        self.joins("right", (
            (((4, 12, 2), one(0)), (4, 12, 2)),
            (((4, 12, 2), one(1)), (2, 6, 1)),
            (((4, 12, 2), one(2)), (1, 3, 0)),
            (((4, 12, 2), one(3)), (0, 1, 0)),
            (((4, 12, 2), one(4)), ZERO),
            (((4, 12, 2), one(31)), ZERO),
            (((4, 12, 2), one(32)), (4, 12, 2)),
            (((4, 12, 2), one(33)), (2, 6, 1)),
            (((16, 17, 0), one(1)), (8, 8, 3)),
            (((16, 18, 1), one(2)), (4, 4, 2)),
            (((5, 13, 0), one(1)), (2, 6, 0)),
        ))

    def test_by_several(self):
        for left in some_spans():
            for right in ((0, 1, 0), (0, 32, 5), (32, 64, 5), (1, 2, 0), multiples(31), ALL):
                with self.subTest(left=left, right=right):
                    self.assertEqual(joined_span("left", left, right), ALL)
                    told = (0, left[1], 0) if left[1] else ZERO
                    self.assertEqual(joined_span("right", left, right), told)


class Rooms(Told):
    def fits(self, k, base, pairs):
        for m, s, gates in ((0, 0, 0), (3, 4, 16)):
            plan = (k, base, m, s, gates)
            self.told([((plan, span), told) for span, told in pairs], fit_span)

    def test_within_the_room(self):
        for k, base in ((4, 32), (4, 0), (0, 5), (20, 0), (20, 2 ** 20), (20, W - 2 ** 20), (0, TOP), (0, 0)):
            last = base + 2 ** k - 1
            self.fits(k, base, [(one(base), one(base)), (one(last), one(last))])
            if k > 2:
                for span in (
                    (base, last, 0), (base + 1, last - 1, 0), (base, base + 5, 0), (last - 5, last, 0),
                    (base, last - 3, 2), (base + 4, last - 3, 2), (base, base + 4, 2),
                ):
                    self.fits(k, base, [(span, span)])

    def test_one_step_beyond(self):
        self.fits(4, 32, (
            ((32, 47, 0), (32, 47, 0)),
            ((31, 47, 0), (32, 47, 0)),
            ((31, 40, 0), (32, 47, 0)),
            ((40, 48, 0), (32, 47, 0)),
            ((28, 44, 2), (32, 44, 2)),
            ((36, 48, 2), (32, 44, 2)),
            ((36, 44, 2), (36, 44, 2)),
            ((24, 32, 3), (32, 40, 3)),
            ((32, 48, 4), (32, 32, 5)),
            ((32, 64, 5), (32, 32, 5)),
            (one(31), (32, 47, 0)),
            (one(47), one(47)),
            (one(48), (32, 32, 5)),
            (one(49), (32, 47, 0)),
            (one(50), (32, 46, 1)),
            (ZERO, (32, 32, 5)),
            (one(64), (32, 32, 5)),
            (ALL, (32, 47, 0)),
            (multiples(1), (32, 46, 1)),
            (multiples(3), (32, 40, 3)),
            (multiples(4), (32, 32, 5)),
            (multiples(31), (32, 32, 5)),
        ))

    def test_base_nought(self):
        self.fits(4, 0, (
            ((0, 15, 0), (0, 15, 0)),
            ((0, 16, 0), (0, 15, 0)),
            ((1, 16, 0), (0, 15, 0)),
            ((8, 16, 3), (0, 8, 3)),
            (one(16), ZERO),
            (one(17), (0, 15, 0)),
            (ZERO, ZERO),
            (ALL, (0, 15, 0)),
            (multiples(4), ZERO),
            (multiples(31), ZERO),
        ))

    def test_a_room_of_one_place(self):
        for base in (0, 5, 8, 2 ** 31, TOP):
            self.fits(0, base, [(span, one(base)) for span in some_spans()])

    def test_a_room_of_the_greatest_size(self):
        self.fits(20, 2 ** 20, (
            (ALL, (2 ** 20, 2 ** 21 - 1, 0)),
            (multiples(2), (2 ** 20, 2 ** 21 - 4, 2)),
            (multiples(19), (2 ** 20, 2 ** 20 + 2 ** 19, 19)),
            (multiples(20), one(2 ** 20)),
            ((2 ** 20 - 1, 2 ** 20, 0), (2 ** 20, 2 ** 21 - 1, 0)),
            ((2 ** 21 - 1, 2 ** 21, 0), (2 ** 20, 2 ** 21 - 1, 0)),
            (one(2 ** 21), one(2 ** 20)),
            (ZERO, one(2 ** 20)),
        ))

    def test_the_room_at_the_end_of_all_places(self):
        self.fits(20, W - 2 ** 20, (
            (ALL, (W - 2 ** 20, TOP, 0)),
            ((W - 2 ** 20, TOP, 0), (W - 2 ** 20, TOP, 0)),
            ((W - 2 ** 20 - 1, TOP, 0), (W - 2 ** 20, TOP, 0)),
            ((W - 2 ** 20 - 8, W - 8, 3), (W - 2 ** 20, W - 8, 3)),
            (one(TOP), one(TOP)),
            (ZERO, one(W - 2 ** 20)),
        ))
        self.fits(1, W - 2, (((W - 3, TOP, 0), (W - 2, TOP, 0)), (multiples(1), one(W - 2))))

    def test_aim_of_several(self):
        asked = (
            ((0, 0), ZERO), ((0, 3), ZERO), ((0, 7), ZERO),
            ((1, 0), (0, 8, 3)), ((2, 0), (0, 24, 3)), ((7, 0), (0, 1016, 3)),
            ((1, 1), (0, 16, 4)), ((3, 4), (0, 896, 7)), ((4, 3), (0, 960, 6)), ((1, 6), (0, 512, 9)),
        )
        for (m, s), told in asked:
            plan = (4, 32, m, s, 2)
            spans = [span for span in some_spans() if span[0] < span[1]]
            self.told([((plan, span), told) for span in spans], aim_span)

    def test_aim_of_one_value(self):
        for m, s, v, told in (
            (0, 0, 0, ZERO), (0, 0, 5, ZERO), (0, 7, TOP, ZERO),
            (3, 4, 0, ZERO), (3, 4, 1, (128, 128, 7)), (3, 4, 7, (896, 896, 7)), (3, 4, 8, ZERO),
            (3, 4, 10, (256, 256, 8)),
            (7, 0, 127, (1016, 1016, 3)), (7, 0, 128, ZERO), (7, 0, TOP, (1016, 1016, 3)), (1, 6, 3, (512, 512, 9)),
        ):
            self.told([(((0, 7, m, s, 0), one(v)), told)], aim_span)


class Sound(unittest.TestCase):
    def holds(self, asked, span, values):
        self.assertTrue(is_span(span), (asked, span))
        for v in values:
            self.assertTrue(span[0] <= v <= span[1] and v % 2 ** span[2] == 0, (asked, span, v))
            self.assertIs(is_in(v, span), True, (asked, span, v))

    def test_what_comes_lies_within(self):
        numbers = Numbers(1)
        spans = [(span, some_values(span, numbers)) for span in some_spans()]
        for sort in THREE_BOXES:
            for left, bs in spans:
                for right, cs in spans:
                    made = [joined(sort, b, c) for b in bs[:4] + bs[-2:] for c in cs[:3] + cs[-2:]]
                    self.holds((sort, left, right), joined_span(sort, left, right), made)

    def test_of_all_small_spans(self):
        spans = []
        for z in range(4):
            for lo in range(0, 13, 2 ** z):
                for hi in range(lo, 13, 2 ** z):
                    spans.append(one(lo) if lo == hi else (lo, hi, z))
        numbers = Numbers(2)
        for step in range(2500):
            left, right, sort = numbers.pick(spans), numbers.pick(spans), numbers.pick(THREE_BOXES)
            bs = range(left[0], left[1] + 1, 2 ** left[2])
            cs = range(right[0], right[1] + 1, 2 ** right[2])
            made = {joined(sort, b, c) for b in bs for c in cs}
            self.holds((sort, left, right), joined_span(sort, left, right), sorted(made))

    def test_more_lies_within(self):
        numbers = Numbers(3)
        for span in some_spans():
            for n in (0, 1, -1, 2, -2, 4, -4, 7, -8, 96, 2 ** 17 - 1, -(2 ** 17)):
                made = [(v + n) % W for v in some_values(span, numbers)]
                self.holds((span, n), more_span(span, n), made)

    def test_fit_and_aim_lie_within(self):
        numbers = Numbers(4)
        for k in (0, 1, 3, 8, 20):
            for base in (0, 2 ** k, 6 * 2 ** k, W - 2 ** k):
                for m, s in ((0, 0), (2, 1), (7, 0), (0, 7)):
                    plan = (k, base, m, s, 0)
                    for span in some_spans():
                        values = some_values(span, numbers)
                        self.holds((plan, span), fit_span(plan, span), [base + v % 2 ** k for v in values])
                        self.holds((plan, span), aim_span(plan, span), [v % 2 ** m * 8 * 2 ** s for v in values])


if __name__ == "__main__":
    unittest.main()
