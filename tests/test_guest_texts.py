"""Guests' texts like chance, read by the program and by rows told otherwise."""

import re
import unittest

from fencemask.errors import NoGuest, NoText
from fencemask.guests import check_guest
from fencemask.reader import read_guest
from fencemask.writer import guest_text
from helper import MOVES, SAMPLE, THREE_BOXES, TOP, Numbers

# The rows of a text, told otherwise than the program reads them.
NUMBER = "(0|-?[1-9][0-9]{0,9})"
BOX = "([0-5])"
FORMS = (
    ("(stop)", ()), ("(put) " + BOX + " " + NUMBER, (0, TOP)),
    ("(" + "|".join(THREE_BOXES) + ") " + " ".join((BOX, BOX, BOX)), ()),
    ("(" + "|".join(MOVES) + ") " + " ".join((BOX, BOX, NUMBER)), (-131072, 131071)),
    ("(jump|gate) " + NUMBER, (0, 262143)), ("(jumpif) " + BOX + " " + NUMBER, (0, 262143)), ("(through) " + BOX, ()),
)


def expected_instruction(row):
    for form, bounds in FORMS:
        found = re.fullmatch(form, row)
        if found:
            instruction = (found[1],) + tuple(int(piece) for piece in found.groups()[1:])
            if not bounds or bounds[0] <= instruction[-1] <= bounds[1]:
                return instruction
    return None


def expected(text):
    """A guest, or ("line", the line of a NoText)."""
    blocks = []
    line = 0
    for row in text.split("\n"):
        line += 1
        row = re.fullmatch(" *([^;]*?) *(;.*)?", row)[1]
        instruction = expected_instruction(row)
        if row == "block " + str(len(blocks)):
            blocks.append(())
        elif row and (instruction is None or not blocks):
            return ("line", line)
        elif row:
            blocks[-1] += (instruction,)
    return tuple(blocks) if blocks else ("line", line + 1)


class LikeChance(unittest.TestCase):
    def changed(self, text, numbers):
        """The text with a sign more, less or changed, or with what is passed over at a row's ends."""
        at = numbers.below(len(text) + 1)
        sign = numbers.pick("0123456789-- ;;\nabstop+~")
        if numbers.below(2) == 0:
            rows = text.split("\n")
            row = numbers.below(len(rows))
            rows[row] = numbers.pick(("", " ", "\n", ";\n")) + rows[row] + numbers.pick(("", " ", "; a", " ;;", "\n"))
            return "\n".join(rows)
        return numbers.pick((text[:at] + sign + text[at:], text[:at] + text[at + 1:], text[:at] + sign + text[at + 1:]))

    def answer(self, ask):
        """How a call ended, and what it told."""
        try:
            return ("guest", ask())
        except NoText as error:
            return ("line", error.line)
        except NoGuest as error:
            return ("block", error.block, error.at)

    def asked(self, text):
        guest = expected(text)
        if guest[0] == "line":
            return guest
        return self.answer(lambda: check_guest(guest, 16) or guest)

    def compared(self, text, ways):
        asked = self.asked(text)
        ways[asked[0]] = ways.get(asked[0], 0) + 1
        with self.subTest(text=text):
            self.assertEqual(self.answer(lambda: read_guest(text)), asked)

    def test_texts_with_a_few_signs_changed(self):
        numbers = Numbers(8)
        ways = {}
        for step in range(6000):
            text = guest_text(numbers.guest()) if step % 8 == 0 else SAMPLE
            for turn in range(numbers.below(3) + 1):
                text = self.changed(text, numbers)
            self.compared(text, ways)
        # These ends must be met often, or the test means little.
        self.assertGreater(ways["line"], 1000)
        self.assertGreater(ways["guest"], 1000)

    def test_texts_of_rows_in_any_order(self):
        numbers = Numbers(9)
        pieces = SAMPLE.split("\n") + [
            "block 1", "block 0", "", "; remark", "stop", "stop", "gate 15", "gate 16", "jump 3", "put 0 0",
        ]
        ways = {}
        for step in range(6000):
            rows = ["block 0"] * numbers.below(2) + [numbers.pick(pieces) for row in range(numbers.below(7))]
            self.compared("\n".join(rows), ways)
        self.assertGreater(ways["line"], 1000)
        self.assertGreater(ways["block"], 1000)
        self.assertGreater(ways["guest"], 100)


if __name__ == "__main__":
    unittest.main()
