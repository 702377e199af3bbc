import unittest

from fencemask.bits import rest, signed, zeros

NUMBERS = (
    0, 1, 2, 3, 7, 8, 77, 2 ** 31, 2 ** 32 - 1, 2 ** 32, 2 ** 32 + 1,
    2 ** 63, 2 ** 64 - 1, 2 ** 64, 2 ** 64 + 5, 3 ** 90, 10 ** 40,
)


class Rest(unittest.TestCase):
    def test_written_out(self):
        asked = (
            (0, 0, 0), (5, 0, 0), (-5, 0, 0),
            (0, 1, 0), (1, 1, 1), (2, 1, 0), (-1, 1, 1), (-2, 1, 0),
            (13, 3, 5), (-1, 3, 7), (-8, 3, 0), (-9, 3, 7),
            (-1, 18, 262143), (-131072, 18, 131072),
            (0, 32, 0), (4294967295, 32, 4294967295), (4294967296, 32, 0),
            (4294967301, 32, 5), (-1, 32, 4294967295), (-4294967296, 32, 0),
            (-4294967297, 32, 4294967295),
            (18446744073709551615, 64, 18446744073709551615),
            (18446744073709551616, 64, 0), (-1, 64, 18446744073709551615),
        )
        for v, bits, told in asked:
            with self.subTest(v=v, bits=bits):
                self.assertEqual(rest(v, bits), told)

    def test_within_its_range_and_a_multiple_away(self):
        for bits in range(65):
            for number in NUMBERS:
                for v in (number, -number):
                    told = rest(v, bits)
                    with self.subTest(v=v, bits=bits):
                        self.assertIs(type(told), int)
                        self.assertGreaterEqual(told, 0)
                        self.assertLess(told, 2 ** bits)
                        self.assertEqual((v - told) % 2 ** bits, 0)


class Zeros(unittest.TestCase):
    def test_nought_has_32(self):
        self.assertEqual(zeros(0), 32)

    def test_odd_numbers_have_none(self):
        for v in (1, 3, 5, 77, 2 ** 31 - 1, 2 ** 31 + 1, 2 ** 32 - 1):
            self.assertEqual(zeros(v), 0)
            self.assertEqual(zeros(-v), 0)

    def test_each_power_of_two(self):
        for power in range(33):
            with self.subTest(power=power):
                self.assertEqual(zeros(2 ** power), power)
                self.assertEqual(zeros(-(2 ** power)), power)

    def test_odd_multiples_of_each_power_of_two(self):
        for power in range(32):
            for odd in (3, 5, 21, 2 ** (32 - power) - 1):
                v = odd * 2 ** power
                if v <= 2 ** 32:
                    with self.subTest(v=v):
                        self.assertEqual(zeros(v), power)
                        self.assertEqual(zeros(-v), power)

    def test_written_out(self):
        for v, told in ((6, 1), (12, 2), (40, 3), (96, 5), (-24, 3), (4294967294, 1)):
            self.assertEqual(zeros(v), told)

    def test_a_whole_number_comes(self):
        for v in (0, 1, -2, 2 ** 32):
            self.assertIs(type(zeros(v)), int)


class Signed(unittest.TestCase):
    def test_written_out(self):
        asked = (
            (0, 1, 0), (1, 1, -1),
            (0, 18, 0), (1, 18, 1), (131071, 18, 131071), (131072, 18, -131072),
            (131073, 18, -131071), (262143, 18, -1),
            (2147483647, 32, 2147483647), (2147483648, 32, -2147483648),
            (4294967295, 32, -1),
            (9223372036854775807, 64, 9223372036854775807),
            (9223372036854775808, 64, -9223372036854775808),
            (18446744073709551615, 64, -1),
        )
        for v, bits, told in asked:
            with self.subTest(v=v, bits=bits):
                self.assertEqual(signed(v, bits), told)

    def test_each_number_of_few_bits(self):
        for bits in range(1, 9):
            half = 2 ** (bits - 1)
            told = [signed(v, bits) for v in range(2 ** bits)]
            self.assertEqual(told, list(range(half)) + list(range(-half, 0)))

    def test_both_ends_and_beside_them(self):
        for bits in range(2, 65):
            half = 2 ** (bits - 1)
            for number in (-half, -half + 1, -1, 0, 1, half - 2, half - 1):
                with self.subTest(number=number, bits=bits):
                    self.assertEqual(signed(number % 2 ** bits, bits), number)

    def test_its_rest_is_what_was_handed_in(self):
        for bits in (1, 18, 32, 64):
            for number in NUMBERS:
                v = number % 2 ** bits
                told = signed(v, bits)
                self.assertIs(type(told), int)
                self.assertTrue(-(2 ** (bits - 1)) <= told < 2 ** (bits - 1))
                self.assertEqual(rest(told, bits), v)


class SameAnswer(unittest.TestCase):
    def test_asked_again(self):
        for number in NUMBERS:
            self.assertEqual(rest(-number, 32), rest(-number, 32))
            self.assertEqual(signed(number % 2 ** 64, 64), signed(number % 2 ** 64, 64))
        self.assertEqual([zeros(48), zeros(0), zeros(48), zeros(0)], [4, 32, 4, 32])


if __name__ == "__main__":
    unittest.main()
