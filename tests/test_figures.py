import unittest

from fencemask.figures import read_number


class ReadNumber(unittest.TestCase):
    def test_numbers(self):
        for number in (0, 1, 9, 10, 77, 99, 100, 1000000000, 4294967295, 4294967296, 9999999999):
            self.assertEqual(read_number(str(number)), number)
            if number > 0:
                self.assertEqual(read_number("-" + str(number)), -number)

    def test_pieces_that_are_none(self):
        pieces = (
            "", "-", "--", "+", "+1", "00", "01", "-0", "-00", "-01", "--1", "1-", "10000000000", "-10000000000",
            "0" * 11, "9" * 11, "9" * 5000, "-" + "9" * 5000, " 1", "1 ", "1 1", "1\n", "a", "1a", "a1", "0x1", "1.0",
            "1_0", "1e3", "/", ":", ";",
        )
        for piece in pieces:
            with self.subTest(piece=piece[:20]):
                self.assertIsNone(read_number(piece))

    def test_each_other_sign(self):
        for number in range(ord(" "), ord("~") + 1):
            sign = chr(number)
            if sign not in "0123456789":
                for piece in (sign, sign + "1" if sign != "-" else "--1", "1" + sign, "1" + sign + "1", "-1" + sign):
                    with self.subTest(piece=piece):
                        self.assertIsNone(read_number(piece))

    def test_figures_of_other_scripts(self):
        # Python's own int takes these.
        for piece in ("\u0661", "1\u0662", "\u00b2", "\uff11"):
            self.assertIsNone(read_number(piece))


if __name__ == "__main__":
    unittest.main()
