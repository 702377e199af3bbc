import copy
import unittest

from fencemask.writer import guest_text
from helper import STOP, TOP, Numbers, guest_rows, guest_with


class Rows(unittest.TestCase):
    def test_as_the_document_writes_them(self):
        asked = (
            (("put", 1, 77), "put 1 77"), (("add", 0, 1, 2), "add 0 1 2"), (("sub", 0, 1, 2), "sub 0 1 2"),
            (("and", 0, 1, 2), "and 0 1 2"), (("or", 0, 1, 2), "or 0 1 2"), (("xor", 0, 1, 2), "xor 0 1 2"),
            (("less", 0, 1, 2), "less 0 1 2"), (("left", 0, 1, 2), "left 0 1 2"),
            (("right", 0, 1, 2), "right 0 1 2"), (("more", 0, 1, -5), "more 0 1 -5"),
            (("load", 0, 1, 4), "load 0 1 4"), (("store", 0, 1, 4), "store 0 1 4"),
            (("jumpif", 0, 2), "jumpif 0 2"), (("gate", 1), "gate 1"),
        )
        for instruction, row in asked:
            with self.subTest(row=row):
                self.assertEqual(guest_text(((instruction, STOP),)), "block 0\n" + row + "\nstop")
        for end, row in ((STOP, "stop"), (("jump", 2), "jump 2"), (("through", 3), "through 3")):
            with self.subTest(row=row):
                self.assertEqual(guest_text(((end,),)), "block 0\n" + row)

    def test_each_sort_at_its_bounds(self):
        for instruction, row in guest_rows():
            with self.subTest(row=row):
                told = guest_text(guest_with(instruction))
                self.assertIs(type(told), str)
                self.assertEqual(told.split("\n")[:2], ["block 0", row])

    def test_numbers(self):
        asked = (
            (("put", 0, 0), "put 0 0"), (("put", 5, TOP), "put 5 4294967295"), (("put", 0, 10), "put 0 10"),
            (("put", 0, 1000000000), "put 0 1000000000"), (("more", 1, 2, 0), "more 1 2 0"),
            (("more", 1, 2, -1), "more 1 2 -1"), (("load", 5, 0, -131072), "load 5 0 -131072"),
            (("store", 0, 5, 131071), "store 0 5 131071"),
        )
        for instruction, row in asked:
            with self.subTest(row=row):
                self.assertEqual(guest_text(((instruction, STOP),)), "block 0\n" + row + "\nstop")


class Blocks(unittest.TestCase):
    def test_one(self):
        self.assertEqual(guest_text(((STOP,),)), "block 0\nstop")

    def test_several(self):
        guest = (
            (("put", 1, 77), ("jumpif", 1, 2), ("jump", 1)), (STOP,),
            (("load", 0, 1, -4), ("gate", 15), ("through", 3)),
        )
        text = "block 0\nput 1 77\njumpif 1 2\njump 1\nblock 1\nstop\nblock 2\nload 0 1 -4\ngate 15\nthrough 3"
        self.assertEqual(guest_text(guest), text)

    def test_sixteen(self):
        text = "\n".join(f"block {number}\njump {15 - number}" for number in range(16))
        self.assertEqual(guest_text(tuple((("jump", 15 - number),) for number in range(16))), text)

    def test_the_greatest(self):
        block = (("load", 5, 5, -131072),) * 23 + (STOP,)
        rows = guest_text((block,) * 16).split("\n")
        self.assertEqual(len(rows), 16 * 25)
        for number in range(16):
            expected = [f"block {number}"] + ["load 5 5 -131072"] * 23 + ["stop"]
            self.assertEqual(rows[25 * number:25 * number + 25], expected)

    def test_no_blanks_at_the_ends_and_no_line_feed(self):
        numbers = Numbers(4)
        for step in range(100):
            text = guest_text(numbers.guest())
            self.assertEqual(text, text.strip())
            for row in text.split("\n"):
                self.assertNotEqual(row, "")
                self.assertEqual(row, " ".join(row.split()))

    def test_nothing_is_changed_and_the_answer_is_the_same(self):
        numbers = Numbers(5)
        for step in range(50):
            guest = numbers.guest()
            kept = copy.deepcopy(guest)
            first = guest_text(guest)
            guest_text(numbers.guest())
            self.assertEqual(guest_text(guest), first)
            self.assertEqual(guest, kept)


if __name__ == "__main__":
    unittest.main()
