import unittest

from fencemask.code import code_text, read_code
from fencemask.errors import NoText

TOP = 2 ** 32 - 1
SAMPLE = (0, 1, 15, 16, 77, 0x01234567, 0x89ABCDEF, 0x80000000, TOP, 0xDEADBEEF)


def words(count):
    return [SAMPLE[at % len(SAMPLE)] for at in range(count)]


class CodeText(unittest.TestCase):
    def test_no_words(self):
        self.assertEqual(code_text([]), "")

    def test_one_word(self):
        asked = (
            (0, "00000000"), (1, "00000001"), (10, "0000000a"), (255, "000000ff"),
            (0x01234567, "01234567"), (0x89ABCDEF, "89abcdef"), (2 ** 31, "80000000"), (TOP, "ffffffff"),
        )
        for word, text in asked:
            self.assertEqual(code_text([word]), text)

    def test_each_digit_in_each_place(self):
        for place in range(8):
            for digit in range(16):
                text = "0" * place + "0123456789abcdef"[digit] + "0" * (7 - place)
                word = digit * 16 ** (7 - place)
                self.assertEqual(code_text([word]), text)
                self.assertEqual(read_code(text), [word])

    def test_rows_of_eight(self):
        row = "00000000 00000001 0000000f 00000010 0000004d 01234567 89abcdef 80000000"
        behind = "ffffffff deadbeef 00000000 00000001 0000000f 00000010 0000004d 01234567"
        self.assertEqual(code_text(words(2)), "00000000 00000001")
        self.assertEqual(code_text(words(7)), row[:-9])
        self.assertEqual(code_text(words(8)), row)
        self.assertEqual(code_text(words(9)), row + "\nffffffff")
        self.assertEqual(code_text(words(16)), row + "\n" + behind)
        self.assertEqual(code_text(words(17)), row + "\n" + behind + "\n89abcdef")

    def test_the_greatest_code(self):
        rows = code_text([TOP] * 1024).split("\n")
        self.assertEqual(rows, [" ".join(["ffffffff"] * 8)] * 128)

    def test_the_code_stays_and_the_answer_is_the_same(self):
        code = words(17)
        first = code_text(code)
        self.assertEqual(code, words(17))
        self.assertEqual(code_text(code), first)
        code[0] = TOP
        self.assertEqual(code_text(words(17)), first)


class ReadCode(unittest.TestCase):
    def test_no_pieces(self):
        for text in ("", " ", "\n", "   ", "\n\n\n", " \n  \n ", "\n "):
            with self.subTest(text=text):
                self.assertEqual(read_code(text), [])

    def test_what_was_written(self):
        for count in (0, 1, 2, 7, 8, 9, 15, 16, 17, 1024):
            told = read_code(code_text(words(count)))
            self.assertIs(type(told), list)
            self.assertEqual(told, words(count))

    def test_any_blanks_and_line_feeds(self):
        asked = (
            "0000004d ffffffff 00000000", "0000004d\nffffffff\n00000000",
            "0000004d    ffffffff  00000000", "0000004d\n\n\nffffffff \n 00000000",
            " 0000004d ffffffff 00000000", "0000004d ffffffff 00000000 ",
            "\n0000004d ffffffff\n00000000\n", "\n\n  0000004d \n\n ffffffff\n   00000000  \n \n",
        )
        for text in asked:
            with self.subTest(text=text):
                self.assertEqual(read_code(text), [77, TOP, 0])

    def test_more_than_eight_in_a_row(self):
        self.assertEqual(read_code(" ".join(["0000000a"] * 20)), [10] * 20)

    def test_the_list_is_a_new_one(self):
        first, second = read_code("00000001 00000002"), read_code("00000001 00000002")
        self.assertEqual(first, second)
        first[0] = 9
        first.append(3)
        self.assertEqual(second, [1, 2])
        self.assertEqual(read_code("00000001 00000002"), [1, 2])


class WrongTexts(unittest.TestCase):
    def refused(self, text, line):
        with self.subTest(text=text):
            with self.assertRaises(NoText) as taken:
                read_code(text)
            self.assertEqual(taken.exception.line, line)

    def test_pieces_that_are_no_words(self):
        pieces = (
            "0", "0000000", "000000000", "0000000000000000", "A0000000", "0000000F", "DEADBEEF", "deadbeeF",
            "g0000000", "0000000g", "0000000z", "0000-000", "-0000001", "+0000001", "0x000001", "0000_000",
            "0000.000", "0000000;", ";", "00000000;", "00000000,00000000", "stop", "plan", "~~~~~~~~", "/:@`!\"#$",
        )
        for piece in pieces:
            self.refused(piece, 1)
            self.refused("00000000 " + piece, 1)
            self.refused(piece + " 00000000", 1)
            self.refused("  " + piece + "  ", 1)
            self.refused("00000000\n" + piece, 2)
            self.refused("00000000\n\n00000000 00000001 " + piece + "\n", 3)

    def test_each_other_sign(self):
        for number in range(ord("!"), ord("~") + 1):
            sign = chr(number)
            if sign not in "0123456789abcdef":
                self.refused(sign + "0000000", 1)
                self.refused("00000000\n0000000" + sign, 2)
                self.refused(sign * 8, 1)

    def test_a_word_parted_amid(self):
        self.refused("0000 0000", 1)
        self.refused("0000\n0000", 1)
        self.refused("00000000\n0000000\n0", 2)

    def test_behind_empty_rows(self):
        self.refused("\n0000000", 2)
        self.refused("\n\n\n0000000", 4)
        self.refused(" \n  \n\n 0000000A", 4)
        self.refused("\n00000000\n\n\nx", 5)

    def test_the_first_of_several(self):
        self.refused("x\ny", 1)
        self.refused("00000000\nx\n00000000\ny\nz", 2)
        self.refused("\n00000000 x\nx 00000000", 2)

    def test_the_last_row_of_many(self):
        self.refused(code_text(words(1024)) + "\n0000000", 129)

    def test_asked_again(self):
        self.refused("00000000\nx", 2)
        self.refused("00000000\nx", 2)
        self.assertEqual(read_code("00000000\n"), [0])


if __name__ == "__main__":
    unittest.main()
