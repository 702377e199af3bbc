import unittest

from fencemask.errors import NoGuest, NoText
from fencemask.guests import check_guest
from fencemask.reader import read_guest
from fencemask.writer import guest_text
from helper import GUEST, MOVES, SAMPLE, STOP, THREE_BOXES, TOP, Numbers, guest_rows, guest_with

ROWS = SAMPLE.split("\n")


class Reading(unittest.TestCase):
    def told(self, text, guest):
        with self.subTest(text=text):
            self.assertEqual(read_guest(text), guest)

    def no_text(self, text, line):
        with self.subTest(text=text):
            with self.assertRaises(NoText) as taken:
                read_guest(text)
            self.assertIs(type(taken.exception), NoText)
            self.assertEqual(taken.exception.line, line)

    def no_guest(self, text, block, at):
        with self.subTest(text=text):
            with self.assertRaises(NoGuest) as taken:
                read_guest(text)
            self.assertIs(type(taken.exception), NoGuest)
            self.assertEqual((taken.exception.block, taken.exception.at), (block, at))

    def is_none(self, row):
        """The row is refused wherever it stands behind a block's row."""
        self.no_text("block 0\n" + row, 2)
        self.no_text("block 0\n" + row + "\nstop", 2)
        self.no_text("block 0\nput 0 0\n\n" + row + " ; remark\nstop\n", 4)
        self.no_text(SAMPLE + "\n  " + row + "  ", len(ROWS) + 1)


class Ordinary(Reading):
    def test_the_sample(self):
        self.told(SAMPLE, GUEST)

    def test_the_least(self):
        self.told("block 0\nstop", ((STOP,),))

    def test_each_sort_at_its_bounds(self):
        behind = "".join(f"\nblock {number}\nstop" for number in range(1, 16))
        for instruction, row in guest_rows():
            last = "" if instruction[0] in ("stop", "jump", "through") else "\nstop"
            self.told("block 0\n" + row + last + behind, guest_with(instruction))

    def test_each_kind(self):
        guest = read_guest(SAMPLE)
        self.assertIs(type(guest), tuple)
        for block in guest:
            self.assertIs(type(block), tuple)
            for instruction in block:
                self.assertIs(type(instruction), tuple)
                self.assertIs(type(instruction[0]), str)
                for number in instruction[1:]:
                    self.assertIs(type(number), int)

    def test_what_is_written_is_read(self):
        numbers = Numbers(6)
        for step in range(300):
            guest = numbers.guest()
            self.told(guest_text(guest), guest)
        greatest = ((("store", 5, 5, -131072),) * 23 + (STOP,),) * 16
        self.told(guest_text(greatest), greatest)

    def test_what_is_read_is_written(self):
        self.assertEqual(guest_text(read_guest(SAMPLE)), SAMPLE)

    def test_blanks_at_a_rows_ends(self):
        for ahead, behind in (("  ", ""), ("", " "), (" ", " "), ("     ", "   ")):
            self.told("\n".join(ahead + row + behind for row in ROWS), GUEST)
            for at in range(len(ROWS)):
                self.told("\n".join(ROWS[:at] + [ahead + ROWS[at] + behind] + ROWS[at + 1:]), GUEST)

    def test_empty_rows_and_rows_of_blanks(self):
        for row in ("", " ", "     "):
            for at in range(len(ROWS) + 1):
                self.told("\n".join(ROWS[:at] + [row] + ROWS[at:]), GUEST)
                self.told("\n".join(ROWS[:at] + [row, row, row] + ROWS[at:]), GUEST)
            self.told(f"\n{row}\n".join(ROWS), GUEST)

    def test_line_feeds_at_the_ends(self):
        self.told(SAMPLE + "\n", GUEST)
        self.told(SAMPLE + "\n\n\n", GUEST)
        self.told("\n" + SAMPLE, GUEST)
        self.told("\n\n" + SAMPLE + "\n \n", GUEST)

    def test_remarks(self):
        remarks = (
            ";", "; a remark", ";stop", " ;", "   ; block 7 ; put 9", ";;;", "; ~!@#$^&*()_+|\"'\\", ";  ", " ; \\n",
        )
        for remark in remarks:
            self.told(SAMPLE + remark, GUEST)
            self.told(SAMPLE + "\n" + remark, GUEST)
            self.told(remark + "\n" + SAMPLE, GUEST)
            self.told("\n".join(row + remark for row in ROWS), GUEST)
            for at in range(len(ROWS)):
                self.told("\n".join(ROWS[:at] + [ROWS[at] + remark] + ROWS[at + 1:]), GUEST)
                self.told("\n".join(ROWS[:at] + [remark] + ROWS[at:]), GUEST)

    def test_a_remark_ends_with_its_row(self):
        self.told("block 0 ; one\nput 0 1;two\n;three\nstop", ((("put", 0, 1), STOP),))

    def test_numbers_of_ten_figures(self):
        self.told("block 0\nput 0 1000000000\nput 5 4294967295\nstop", ((("put", 0, 10 ** 9), ("put", 5, TOP), STOP),))

    def test_blocks_of_two_figures(self):
        text = "\n".join(f"block {number}\njump {15 - number}" for number in range(16))
        self.told(text, tuple((("jump", 15 - number),) for number in range(16)))

    def test_somewhat_beyond_the_bounds_of_lengths(self):
        self.told("\n".join(f"block {number}\nstop" for number in range(17)), ((STOP,),) * 17)
        self.told("block 0\n" + "put 0 1\n" * 24 + "stop", ((("put", 0, 1),) * 24 + (STOP,),))


class NoRows(Reading):
    def test_a_word_too_few_and_too_many(self):
        for instruction, row in guest_rows():
            words = row.split(" ")
            if len(words) > 1:
                self.is_none(" ".join(words[:-1]))
                self.is_none(words[0])
                self.is_none(" ".join(words[1:]))
            self.is_none(row + " 0")
            self.is_none(row + " 0 0")
            self.is_none(row + " stop")
            self.is_none(row + " " + row)

    def test_other_blanks_between_words(self):
        for instruction, row in guest_rows():
            words = row.split(" ")
            for at in range(1, len(words)):
                for between in ("  ", "   ", "", ",", ", ", " , ", "_", ".", "\n"):
                    made = " ".join(words[:at]) + between + " ".join(words[at:])
                    with self.subTest(row=made):
                        with self.assertRaises(NoText) as taken:
                            read_guest("block 0\n" + made)
                        self.assertEqual(taken.exception.line, 2)

    def test_a_remark_amid_a_row(self):
        self.is_none("add 0 1 ;2")
        self.is_none("add 0 1; 2")
        self.is_none("add 0 ; 1 2")
        self.is_none("put; 1 77")
        self.is_none("stop put ; 1")

    def test_great_letters(self):
        for sort in ("stop", "put", "more", "jump", "jumpif", "through", "gate") + THREE_BOXES + MOVES:
            row = next(row for instruction, row in guest_rows() if instruction[0] == sort)
            self.is_none(row.upper())
            self.is_none(row[0].upper() + row[1:])
        self.no_text("Block 0\nstop", 1)
        self.no_text("BLOCK 0\nstop", 1)

    def test_other_words(self):
        rows = (
            "halt", "stops", "sto", "top", "st", "nop", "put0 1", "mul 0 1 2", "adds 0 1 2", "not 0 1", "0", "1 2 3",
            "move 0 1 5", "loads 0 1 4", "jumpifs 0 2", "jump if 0 2", "blocks 1", "block", "bloc 1", "a", "n", "v",
            "~", "-",
            "stop.", "stop,", "stop:", "stop-", "-stop", "!", "# remark", "// remark", "'stop'", "\"stop\"", "(stop)",
            "plan 4 32 0 0 1", "00000000", "0000004d", "stopstop",
        )
        for row in rows:
            self.is_none(row)

    def test_sorts_that_a_guest_has_not(self):
        for row in ("fit 0 1", "fit 6 6", "aim 0 1", "aim 6 0", "fit 0", "aim", "fit 0 1 2"):
            self.is_none(row)

    def test_boxes_beyond_five(self):
        for box in (6, 7, 8, 9, 10, 15, 2 ** 31, "-1", "05", "a"):
            for sort in THREE_BOXES:
                for row in (f"{sort} {box} 1 2", f"{sort} 0 {box} 2", f"{sort} 0 1 {box}"):
                    self.is_none(row)
            for sort in MOVES:
                self.is_none(f"{sort} {box} 1 4")
                self.is_none(f"{sort} 0 {box} 4")
            self.is_none(f"put {box} 77")
            self.is_none(f"jumpif {box} 0")
            self.is_none(f"through {box}")

    def test_numbers_that_are_none(self):
        pieces = (
            "00", "01", "007", "+0", "+1", "-0", "-00", "-01", "--1", "-+1", "+-1", "-", "+", "1-", "0-", "1+", "- 1",
            "",
            "12345678901", "00000000000", "00000000001", "-12345678901", "99999999999", "10000000000", "9" * 5000,
            "-" + "9" * 5000, "0" * 5000, "1a", "a", "a1", "0x1", "0b1", "0o1", "1.0", "1.", ".5", "1e1", "1_0", "_1",
            "1,0", "1:", "/", ":", "'1'", "(1)", "~1", "!1", "one", "W", "1 0", "2**3",
        )
        for piece in pieces:
            for ahead in ("put 0", "more 0 1", "load 0 1", "store 0 1", "jump", "jumpif 0", "gate", "through"):
                self.is_none(f"{ahead} {piece}")
            self.is_none(f"add {piece} 1 2")
            self.is_none(f"less 0 {piece} 2")

    def test_a_value_at_its_bounds(self):
        for v in (0, 1, TOP - 1, TOP):
            self.told(f"block 0\nput 0 {v}\nstop", ((("put", 0, v), STOP),))
        for v in (-1, -TOP, -(2 ** 31), -(2 ** 32), TOP + 1, TOP + 2, 2 ** 33, 9999999999):
            self.is_none(f"put 0 {v}")

    def test_a_move_at_its_bounds(self):
        for sort in MOVES:
            for n in (-131072, -131071, -1, 0, 1, 131070, 131071):
                self.told(f"block 0\n{sort} 0 1 {n}\nstop", (((sort, 0, 1, n), STOP),))
            for n in (-131073, -131074, -262144, -9999999999, 131072, 131073, 262143, 262144, TOP, 9999999999):
                self.is_none(f"{sort} 0 1 {n}")

    def test_a_jump_and_a_gate_at_their_bounds(self):
        for n in (16, 131072, 262142, 262143):
            self.no_guest(f"block 0\njump {n}", 0, 0)
            self.no_guest(f"block 0\njumpif 5 {n}\nstop", 0, 0)
            self.no_guest(f"block 0\ngate {n}\nstop", 0, 0)
        for n in (-1, -2, -262144, 262144, 262145, TOP, 9999999999):
            self.is_none(f"jump {n}")
            self.is_none(f"jumpif 5 {n}")
            self.is_none(f"gate {n}")


class BlockRows(Reading):
    def test_no_number_that_is_due(self):
        rows = (
            "block", "block 1", "block 2", "block 10", "block 00", "block -0", "block +0", "block -1", "block a",
            "block  0", "block 0 0", "block 0 stop", "block0", "block 0:", "block 0x0", "block 00000000000",
            "blocks 0", "0 block", "0", "block O",
        )
        for row in rows:
            self.no_text(row, 1)
            self.no_text(row + "\nstop", 1)
            self.no_text("\n; remark\n  " + row + " ; 0\nstop", 3)

    def test_no_second_number_that_is_due(self):
        rows = (
            "block", "block 0", "block 2", "block 3", "block 11", "block 01", "block +1", "block -1", "block  1",
            "block 1 1", "block 1 stop", "block1", "block 1.",
        )
        for row in rows:
            self.no_text("block 0\nstop\n" + row, 3)
            self.no_text("block 0\nstop\n\n" + row + "\nstop", 4)
            self.no_text("block 0\n" + row + "\nstop", 2)

    def test_one_left_out(self):
        for count in (2, 3, 16):
            for out in range(count):
                rows = [f"block {number}\nstop" for number in range(count + 1) if number != out]
                self.no_text("\n".join(rows), 2 * out + 1)

    def test_two_exchanged(self):
        for first in range(3):
            for second in range(first + 1, 4):
                order = list(range(4))
                order[first], order[second] = second, first
                self.no_text("\n".join(f"block {number}\nstop" for number in order), 2 * first + 1)

    def test_one_twice(self):
        for twice in range(4):
            order = sorted(list(range(4)) + [twice])
            self.no_text("\n".join(f"block {number}\nstop" for number in order), 2 * twice + 3)

    def test_an_instruction_ahead_of_all_blocks(self):
        for instruction, row in guest_rows():
            self.no_text(row, 1)
            self.no_text(row + "\nblock 0\nstop", 1)
            self.no_text("\n ; remark\n" + row + "\nblock 0\nstop", 3)
        self.no_text("put 0\nblock 0\nstop", 1)


class FirstRow(Reading):
    def test_each_row_of_the_sample(self):
        for at in range(len(ROWS)):
            for wrong in ("x", "put 0", "block 9", "add 0  1 2", "fit 0 1"):
                self.no_text("\n".join(ROWS[:at] + [wrong] + ROWS[at:]), at + 1)
                self.no_text("\n".join(ROWS[:at] + [wrong] + ROWS[at + 1:]), at + 1)

    def test_empty_rows_and_remarks_ahead(self):
        for ahead in ([""], [" "], ["; remark"], ["", "", ""], [" ;", "", "   ", ";x"]):
            self.no_text("\n".join(ahead + ["x"]), len(ahead) + 1)
            self.no_text("\n".join(["block 0"] + ahead + ["x", "stop"]), len(ahead) + 2)
            self.no_text("\n".join(ahead + ["block 0"] + ahead + ["stop", "x"]), 2 * len(ahead) + 3)

    def test_the_first_of_several(self):
        self.no_text("x\ny\nz", 1)
        self.no_text("block 0\nput 0\nblock 2\nx", 2)
        self.no_text("block 0\nstop\nblock 2\nput 0\nx", 3)
        self.no_text("block 0\nstop\n\nblock 1\nfit 0 1\nblock 1", 5)
        self.no_text("block 1\nstop\nblock 1\nx", 1)

    def test_behind_more_rows_than_a_block_has_instructions(self):
        for count in (23, 24, 25, 26, 100, 400):
            self.no_text("block 0\n" + "put 0 1\n" * count + "x", count + 2)
            self.no_text("block 0\n" + "put 0 1\n" * count + "stop\nblock 1\nstop\nput 6 0", count + 5)
            self.no_text("block 0\n" + "stop\n" * count + "block 2", count + 2)
        self.no_text("block 0\n" + "put 0 1\n" * 1900 + "x", 1902)

    def test_behind_more_blocks_than_a_guest_has(self):
        rows = "\n".join(f"block {number}\nstop" for number in range(16))
        self.no_text(rows + "\nx", 33)


class NoBlocks(Reading):
    def test_the_text_without_signs(self):
        self.no_text("", 2)

    def test_empty_rows_alone(self):
        for feeds in (1, 2, 3, 15999):
            self.no_text("\n" * feeds, feeds + 2)
        for text, line in ((" ", 2), ("     ", 2), (" \n", 3), ("\n ", 3), ("  \n\n  ", 4)):
            self.no_text(text, line)

    def test_remarks_alone(self):
        asked = (
            (";", 2), ("; block 0", 2), (" ;stop", 2), (";\n", 3), ("\n;", 3), ("; a\n; b", 3),
            ("\n;\n ; block 0\n\n", 6),
        )
        for text, line in asked:
            self.no_text(text, line)


class NoGuests(Reading):
    def test_a_block_without_instructions(self):
        self.no_guest("block 0", 0, -1)
        self.no_guest("block 0\n", 0, -1)
        self.no_guest("block 0 ; stop\n; stop", 0, -1)
        self.no_guest("block 0\nblock 1\nstop", 0, -1)
        self.no_guest("block 0\nstop\nblock 1", 1, -1)
        self.no_guest("block 0\nstop\nblock 1\n\nblock 2\nstop", 1, -1)
        self.no_guest("\n".join(f"block {number}" for number in range(16)), 0, -1)

    def test_ends(self):
        self.no_guest("block 0\nput 0 1", 0, 0)
        self.no_guest("block 0\nstop\nstop", 0, 0)
        self.no_guest("block 0\nput 0 1\njump 0\nstop", 0, 1)
        self.no_guest("block 0\nstop\nblock 1\nthrough 0\ngate 1\nstop", 1, 0)
        self.no_guest("block 0\nstop\nblock 1\nput 0 1\ngate 1\njumpif 0 0", 1, 2)

    def test_blocks_that_there_are_not(self):
        self.no_guest("block 0\njump 1", 0, 0)
        self.no_guest("block 0\njumpif 0 1\nstop", 0, 0)
        self.no_guest("block 0\njump 1\nblock 1\nput 0 0\njump 2", 1, 1)
        self.told("block 0\njump 1\nblock 1\nput 0 0\njump 0", ((("jump", 1),), (("put", 0, 0), ("jump", 0))))

    def test_sixteen_gates(self):
        for n in range(16):
            self.told(f"block 0\ngate {n}\nstop", ((("gate", n), STOP),))
        for n in (16, 17, 262143):
            self.no_guest(f"block 0\nput 0 0\ngate {n}\nstop", 0, 1)

    def test_the_first(self):
        self.no_guest("block 0\nstop\nblock 1\nput 0 1\nstop\ngate 99\nblock 2", 1, 1)

    def test_places_are_counted_without_empty_rows_and_remarks(self):
        self.no_guest("\n; remark\nblock 0\n\nput 0 1\n; remark\n\ngate 16 ; this one\nstop", 0, 1)

    def test_no_text_goes_ahead(self):
        wrong = ("block 0", "block 0\nput 0 1", "block 0\nstop\nstop", "block 0\njump 1", "block 0\ngate 16\nstop")
        for ahead in wrong:
            rows = len(ahead.split("\n"))
            self.no_text(ahead + "\nx", rows + 1)
            self.no_text(ahead + "\nblock 0\nstop", rows + 1)
            self.no_text(ahead + "\nblock 1\nput 6 0\nstop", rows + 2)
            self.no_text("x\n" + ahead, 1)


class Again(Reading):
    def test_the_answer_is_the_same(self):
        for turn in range(3):
            self.told(SAMPLE, GUEST)
            self.no_text("block 0\nstop\nblock 2", 3)
            self.told("block 0\nstop", ((STOP,),))
            self.no_guest("block 0\nput 0 1", 0, 0)
            self.no_text("", 2)

    def test_a_guest_read_is_a_guest_to_hand_on(self):
        numbers = Numbers(7)
        for step in range(30):
            guest = read_guest(guest_text(numbers.guest()))
            self.assertIsNone(check_guest(guest))
            self.told(guest_text(guest), guest)


if __name__ == "__main__":
    unittest.main()
