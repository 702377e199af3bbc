import unittest

from fencemask.code import code_text
from fencemask.desk import checked_text, made_text, run_text, thinned_text
from fencemask.errors import FenceError, NoGuest, NoText, TooLong
from fencemask.machine import run
from fencemask.maker import make
from fencemask.thinner import thin
from fencemask.writer import guest_text
from helper import GUEST, ROOMS, SAMPLE, STOP, TOP, W, Numbers, code_of, filled

BOTH = (made_text, thinned_text)
# One bundle, the room's places 32 to 47, two gates.
PLAN_ROW = "plan 4 32 0 0 2"
NOUGHTS = " 0 0 0 0 0 0 0 0"
STOPS = " ".join(["00000000"] * 8)

TEXT = "\n".join((
    "block 0", "put 1 40", "store 0 1 4", "load 2 3 0", "load 2 3 0", "gate 1", "jump 1",
    "block 1", "jumpif 0 1", "through 3",
))
MADE = "\n".join((
    "plan 4 32 1 1 2",
    "09000000 00000028 56200004 86c00000 60c00000 86600000 5ac00000 50000000",
    "86600000 5ac00000 90000001 68000010 00000000 00000000 00000000 00000000",
    "70000010 8e600000 78c00000 00000000 00000000 00000000 00000000 00000000",
    STOPS,
))
THINNED = "\n".join((
    "plan 4 32 1 0 2",
    "09000000 00000028 60200004 86600000 5ac00000 5ac00000 90000001 68000008",
    "70000008 8e600000 78c00000 00000000 00000000 00000000 00000000 00000000",
))


def fenced(plan_row, *instructions):
    """A text with the plan's row and the words, stops behind them up to a bundle's end."""
    words = code_of(*instructions)
    return plan_row + "\n" + code_text(words + [0] * (-len(words) % 8))


class Made(unittest.TestCase):
    def test_word_by_word(self):
        self.assertEqual(made_text(TEXT, 4, 32, 2), MADE)
        self.assertEqual(thinned_text(TEXT, 4, 32, 2), THINNED)

    def test_one_stop(self):
        for k, base in ROOMS:
            for gates in (0, 1, 16):
                for told in BOTH:
                    self.assertEqual(told("block 0\nstop", k, base, gates), f"plan {k} {base} 0 0 {gates}\n" + STOPS)

    def test_remarks_and_blanks(self):
        text = " ; a guest\n\n  block 0 \n stop;\n\n"
        for told in BOTH:
            self.assertEqual(told(text, 4, 32, 2), PLAN_ROW + "\n" + STOPS)

    def test_as_the_maker_and_the_thinner(self):
        numbers = Numbers(101)
        for step in range(60):
            k, base = room = ROOMS[step % len(ROOMS)]
            guest = numbers.guest(5) if step % 2 else numbers.kept_guest(room, 5)
            for told, made_by in ((made_text, make), (thinned_text, thin)):
                plan, code, places = made_by(guest, room, 5)
                rows = ["plan " + " ".join(str(number) for number in plan)]
                for at in range(0, len(code), 8):
                    rows.append(" ".join(f"{word:08x}" for word in code[at:at + 8]))
                text = told(guest_text(guest), k, base, 5)
                self.assertEqual(text, "\n".join(rows))
                self.assertEqual(checked_text(text), "within")

    def test_the_sample(self):
        for told, made_by in ((made_text, make), (thinned_text, thin)):
            plan, code, places = made_by(GUEST, (20, 0), 2)
            self.assertEqual(told(SAMPLE, 20, 0, 2).split("\n")[1:], code_text(code).split("\n"))


class MadeRefusals(unittest.TestCase):
    def refused(self, text, gates, kind, *fields):
        for told in BOTH:
            with self.subTest(text=text, gates=gates, told=told), self.assertRaises(FenceError) as caught:
                told(text, 4, 32, gates)
            self.assertIs(type(caught.exception), kind)
            self.assertEqual(tuple(vars(caught.exception).values()), fields)

    def test_no_text(self):
        for text, line in (
            ("", 2), ("\n\n", 4), ("stop", 1), ("block 1\nstop", 1), ("block 0\nstop\nblock 2\nstop", 3),
            ("block 0\nput 6 1\nstop", 2), ("block 0\n\nfit 0 1\nstop", 3), ("block 0\nstop 1", 2), (PLAN_ROW, 1),
        ):
            self.refused(text, 16, NoText, line)

    def test_no_guest(self):
        for text, block, at in (
            ("block 0", 0, -1), ("block 0\nstop\nblock 1", 1, -1), ("block 0\nput 0 1", 0, 0),
            ("block 0\nstop\nstop", 0, 0), ("block 0\njump 1", 0, 0), ("block 0\nput 1 1\njumpif 0 1\nstop", 0, 1),
            ("block 0\nstop\nblock 1\ngate 16\nstop", 1, 0),
        ):
            self.refused(text, 16, NoGuest, block, at)

    def test_the_gates_that_are_handed_in(self):
        for gates in range(17):
            text = f"block 0\nstop\nblock 1\nput 0 1\ngate {gates}\nstop"
            self.refused(text, gates, NoGuest, 1, 1)
            for told in BOTH:
                if gates < 16:
                    self.assertEqual(checked_text(told(text, 4, 32, gates + 1)), "within")

    def test_the_first_fault_by_these_gates(self):
        self.refused("block 0\ngate 5\nstop\nblock 1\ngate 20\nstop", 3, NoGuest, 0, 0)
        self.refused("block 0\ngate 5\nstop\nblock 1\ngate 20\nstop", 6, NoGuest, 1, 0)
        self.refused("block 0\ngate 5\nstop\nblock 1\nput 0 1", 0, NoGuest, 0, 0)

    def test_no_text_goes_ahead_of_no_guest(self):
        self.refused("block 0\ngate 5\nstop\nblock 1\nstop 0", 3, NoText, 5)
        self.refused("block 0\nblock 1\nstop\nno", 3, NoText, 4)

    def test_too_long(self):
        loads = ["load 0 1 5", "load 0 2 5"] * 11
        text = "\n".join(row for block in range(9) for row in [f"block {block}"] + loads + ["stop"])
        self.refused(text, 16, TooLong)

    def test_too_long_of_the_makers_alone(self):
        text = "\n".join(row for block in range(9) for row in [f"block {block}"] + ["load 0 1 5"] * 23 + ["stop"])
        with self.assertRaises(TooLong):
            made_text(text, 4, 32, 0)
        self.assertEqual(thinned_text(text, 4, 32, 0).split("\n")[0], "plan 4 32 4 2 0")


class Checked(unittest.TestCase):
    def test_within(self):
        for text in (MADE, THINNED, fenced(PLAN_ROW, STOP), fenced(PLAN_ROW, ("gate", 1))):
            self.assertEqual(checked_text(text), "within")

    def test_each_why(self):
        step = ("more", 0, 0, 1)
        for expected, instructions in (
            ("2 host", (("put", 0, 1), ("more", 7, 7, 0))),
            ("1 beyond", (step, ("load", 0, 1, 0))), ("2 beyond", (("put", 1, 31), ("store", 0, 1, 0))),
            ("1 target", (step, ("jump", 4))), ("0 target", (("jumpif", 0, 8),)),
            ("3 way", (step, step, step, ("through", 0))), ("0 gate", (("gate", 2),)), ("8 end", (step,) * 8),
        ):
            self.assertEqual(checked_text(fenced(PLAN_ROW, *instructions)), expected)
        self.assertEqual(checked_text(PLAN_ROW + "\n" + STOPS[9:] + " ffffffff"), "7 word")
        self.assertEqual(checked_text("plan 4 32 0 1 2\n" + STOPS[9:] + " 08000000 00000005 " + STOPS[9:]), "7 word")

    def test_fewer_and_more_words(self):
        for row, counts in (("plan 4 32 0 0 2", (0, 1, 7, 9, 16)), ("plan 4 32 1 1 2", (0, 8, 16, 31, 33, 64))):
            for count in counts:
                self.assertEqual(checked_text(row + "\n" + code_text([0] * count)), "0 length", count)
        self.assertEqual(checked_text("plan 4 32 1 1 2\n" + code_text([0] * 32)), "within")
        self.assertEqual(checked_text("plan 20 0 3 4 16\n" + code_text([0] * 1024)), "within")

    def test_no_words_at_all(self):
        for behind in ("", "\n", "\n\n", "\n   ", "\n \n "):
            self.assertEqual(checked_text(PLAN_ROW + behind), "0 length")

    def test_length_goes_ahead_of_the_words(self):
        self.assertEqual(checked_text(PLAN_ROW + "\nffffffff"), "0 length")

    def test_words_parted_otherwise(self):
        for text in (
            PLAN_ROW + "\n\n\n  " + STOPS.replace(" ", "   ") + "  \n\n", PLAN_ROW + "\n" + STOPS.replace(" ", "\n"),
            PLAN_ROW + "\n" + STOPS.replace(" ", " \n "),
        ):
            self.assertEqual(checked_text(text), "within")
            self.assertEqual(run_text(text, 0, 5), "stopped" + NOUGHTS)


class Runs(unittest.TestCase):
    def test_stopped(self):
        self.assertEqual(run_text(fenced(PLAN_ROW, STOP), 0, 1), "stopped" + NOUGHTS)
        puts = [("put", box, 10 + box) for box in range(8)]
        self.assertEqual(run_text(fenced(PLAN_ROW, *puts, STOP), 0, 99), "stopped 10 11 12 13 14 15 16 17")
        text = fenced(PLAN_ROW, ("put", 0, TOP), ("put", 5, W // 2), ("more", 7, 7, -1), STOP)
        self.assertEqual(run_text(text, 0, 9), "stopped 4294967295 0 0 0 0 2147483648 0 4294967295")

    def test_spent(self):
        text = fenced(PLAN_ROW, ("more", 1, 1, 1), ("jump", 0))
        for turns, value in ((0, 0), (1, 1), (2, 1), (3, 2), (1000, 500)):
            self.assertEqual(run_text(text, 0, turns), f"spent 0 {value} 0 0 0 0 0 0")

    def test_just_enough_turns_and_one_fewer(self):
        text = fenced(PLAN_ROW, ("put", 2, 7), ("more", 2, 2, 1), STOP)
        self.assertEqual(run_text(text, 0, 3), "stopped 0 0 8 0 0 0 0 0")
        self.assertEqual(run_text(text, 0, 2), "spent 0 0 8 0 0 0 0 0")

    def test_lost(self):
        self.assertEqual(run_text(PLAN_ROW + "\nffffffff", 0, 9), "lost" + NOUGHTS)
        self.assertEqual(run_text(fenced(PLAN_ROW, ("put", 3, 9), ("jump", 99)), 0, 9), "lost 0 0 0 9 0 0 0 0")
        self.assertEqual(run_text(fenced(PLAN_ROW, ("gate", 2)), 0, 9), "lost" + NOUGHTS)
        self.assertEqual(run_text(PLAN_ROW + "\n" + code_text([0] * 8), 1, 9), "lost" + NOUGHTS)

    def test_beyond(self):
        for n, place in ((0, 0), (31, 31), (48, 48), (-1, TOP), (-(2 ** 17), W - 2 ** 17)):
            for sort in ("load", "store"):
                text = fenced(PLAN_ROW, ("put", 2, 5), (sort, 2, 1, n), STOP)
                self.assertEqual(run_text(text, 0, 9), f"beyond {place} 0 0 5 0 0 0 0 0")

    def test_memory_is_nought_at_first(self):
        text = fenced(PLAN_ROW, ("put", 1, 9), ("load", 1, 2, 32), STOP)
        self.assertEqual(run_text(text, 0, 9), "stopped" + NOUGHTS)
        text = fenced(PLAN_ROW, ("put", 1, 9), ("store", 1, 2, 47), ("load", 3, 2, 47), STOP)
        self.assertEqual(run_text(text, 0, 9), "stopped 0 9 0 9 0 0 0 0")
        self.assertEqual(run_text(text, 0, 9), "stopped 0 9 0 9 0 0 0 0")

    def test_asks(self):
        for n in (0, 1):
            text = fenced(PLAN_ROW, ("put", 4, 3), ("gate", n), ("put", 4, 5), STOP)
            self.assertEqual(run_text(text, 0, 9), f"asks {n} 0 0 0 0 3 0 0 0")
        self.assertEqual(run_text(fenced("plan 0 5 0 0 16", ("gate", 15)), 0, 9), "asks 15" + NOUGHTS)

    def test_from_each_block(self):
        for m, s in ((0, 0), (1, 0), (2, 1), (1, 2), (3, 4), (7, 0), (0, 7)):
            size = 8 * 2 ** s
            code = [word for block in range(2 ** m) for word in filled([("put", 0, block + 1), STOP], size)]
            text = f"plan 4 32 {m} {s} 2\n" + code_text(code)
            for block in range(2 ** m):
                self.assertEqual(run_text(text, block, 9), f"stopped {block + 1} 0 0 0 0 0 0 0")
            for block in (2 ** m, 2 ** m + 1, 10 ** 6, 2 ** 32, 2 ** 70):
                self.assertEqual(run_text(text, block, 9), "lost" + NOUGHTS)
                self.assertEqual(run_text(text, block, 0), "lost" + NOUGHTS)

    def test_fewer_words_than_the_plan_tells(self):
        text = "plan 4 32 2 1 2\n" + code_text([0] * 17)
        self.assertEqual([run_text(text, block, 9)[:4] for block in range(5)], ["stop", "stop", "lost", "lost", "lost"])
        text = "plan 4 32 2 1 2\n" + code_text([0] * 16)
        self.assertEqual([run_text(text, block, 9)[:4] for block in range(3)], ["stop", "lost", "lost"])

    def test_more_words_than_the_plan_tells(self):
        text = PLAN_ROW + "\n" + code_text([0] * 25)
        self.assertEqual(
            [run_text(text, block, 9)[:4] for block in range(6)], ["stop", "stop", "stop", "stop", "lost", "lost"],
        )
        text = fenced(PLAN_ROW, *[("more", 0, 0, 1)] * 8, ("put", 1, 6), STOP)
        self.assertEqual(run_text(text, 0, 99), "stopped 8 6 0 0 0 0 0 0")

    def test_no_words_at_all(self):
        for behind in ("", "\n", "\n\n", "\n   "):
            for block in (0, 1):
                for turns in (0, 9):
                    self.assertEqual(run_text(PLAN_ROW + behind, block, turns), "lost" + NOUGHTS)

    def test_the_plan_is_the_rows(self):
        for row, sort, value in (
            ("plan 4 32 0 0 2", "fit", 37), ("plan 3 32 0 0 2", "fit", 37), ("plan 2 32 0 0 2", "fit", 33),
            ("plan 4 0 0 0 2", "fit", 5), ("plan 4 32 0 0 2", "aim", 0), ("plan 4 32 1 0 2", "aim", 8),
            ("plan 4 32 2 1 2", "aim", 16), ("plan 4 32 3 2 2", "aim", 160),
        ):
            text = fenced(row, ("put", 0, 5), (sort, 1, 0), STOP)
            self.assertEqual(run_text(text, 0, 9), f"stopped 5 {value} 0 0 0 0 0 0")

    def test_as_the_machine(self):
        numbers = Numbers(102)
        ends = {}
        for step in range(60):
            k, base = room = ROOMS[step % len(ROOMS)]
            guest = numbers.guest(3) if step % 2 else numbers.kept_guest(room, 3)
            for told, made_by in ((made_text, make), (thinned_text, thin)):
                text = told(guest_text(guest), k, base, 3)
                plan, code, places = made_by(guest, room, 3)
                for block in range(len(guest)):
                    turns = numbers.below(60)
                    end, stand, rows, taken = run(plan, code, (places[(block, 0)], (0,) * 8, {}), [], turns)
                    expected = " ".join(str(piece) for piece in end + stand[1])
                    self.assertEqual(run_text(text, block, turns), expected)
                    ends[end[0]] = True
        self.assertEqual(sorted(ends), ["asks", "spent", "stopped"])


class FencedRefusals(unittest.TestCase):
    def refused(self, text, line):
        for told in (lambda: checked_text(text), lambda: run_text(text, 0, 9), lambda: run_text(text, 5, 0)):
            with self.subTest(text=text), self.assertRaises(FenceError) as caught:
                told()
            self.assertIs(type(caught.exception), NoText)
            self.assertEqual(caught.exception.line, line)

    def test_rows_of_another_form(self):
        for row in (
            "", " ", "plan", "plan ", "plan 4 32 0 0", "plan 4 32 0 0 2 0", "4 32 0 0 2", "Plan 4 32 0 0 2",
            "plans 4 32 0 0 2", "plan4 32 0 0 2", "plan plan 4 32 0 0 2", "4 32 0 0 2 plan", "plan 4 32 0 0 plan",
            "plan  4 32 0 0 2", "plan 4  32 0 0 2", "plan 4 32 0 0  2", "plan 4 32  0 0", " plan 4 32 0 0 2",
            "plan 4 32 0 0 2 ", "plan 4 32 0 0 ", " 4 32 0 0 2", "plan 4 32 0 0 2;", "plan 4 32 0 0 2 ; a remark",
            "plan 4,32,0,0,2", "stop", "block 0", STOPS,
        ):
            for behind in ("", "\n", "\n" + STOPS):
                self.refused(row + behind, 1)

    def test_numbers_written_otherwise(self):
        for at in range(5):
            right = ["4", "32", "0", "0", "2"]
            for wrong in ("0" + right[at], "00", "+" + right[at], "-" + right[at], "-0", "-1", "-16", "a", "0x4", "4.0",
                          "1e1", "4_0", "", "-", "--4", "4-", "00000000004", "12345678901", "9" * 5000, "None", "True"):
                pieces = list(right)
                pieces[at] = wrong
                self.refused("plan " + " ".join(pieces) + "\n" + STOPS, 1)

    def test_numbers_just_beyond_their_bounds(self):
        for numbers in (
            "21 0 0 0 2", "21 2097152 0 0 2", "4294967296 0 0 0 2", "9999999999 0 0 0 2",
            "4 1 0 0 2", "4 31 0 0 2", "4 33 0 0 2", "4 40 0 0 2", "4 8 0 0 2", "1 1 0 0 2", "20 524288 0 0 2",
            "20 1048575 0 0 2", "0 4294967296 0 0 2", "4 4294967296 0 0 2", "4 4294967295 0 0 2", "4 4294967281 0 0 2",
            "20 4294967296 0 0 2", "20 4293918721 0 0 2", "0 9999999999 0 0 2", "4 9999999984 0 0 2",
            "4 32 8 0 2", "4 32 0 8 2", "4 32 7 1 2", "4 32 1 7 2", "4 32 4 4 2", "4 32 9999999999 0 2",
            "4 32 0 9999999999 2", "4 32 0 0 17", "4 32 0 0 9999999999",
        ):
            self.refused("plan " + numbers + "\n" + STOPS, 1)

    def test_numbers_just_within_their_bounds(self):
        for numbers in (
            "0 0 0 0 0", "0 4294967295 0 0 0", "4 4294967280 0 0 0", "20 0 0 0 0", "20 4293918720 0 0 0", "4 16 0 0 0",
            "4 32 0 0 16", "19 524288 0 0 0", "1 2 0 0 0", "0 1 0 0 0",
        ):
            self.assertEqual(checked_text("plan " + numbers + "\n" + STOPS), "within")
            self.assertEqual(run_text("plan " + numbers + "\n" + STOPS, 0, 1), "stopped" + NOUGHTS)
        for m in range(8):
            for s in range(8 - m):
                self.assertEqual(checked_text(f"plan 4 32 {m} {s} 2\n" + code_text([0] * 8 * 2 ** (m + s))), "within")

    def test_pieces_that_are_no_words(self):
        for piece in (
            "0", "0000000", "000000000", "0000000A", "ABCDEFAB", "0000000g", "-0000000", "+0000000", "0x000000", "stop",
            "0000_000", "0000000;", ";", "plan", "00000000,", "~~~~~~~~",
        ):
            self.refused(PLAN_ROW + "\n" + piece, 2)
            self.refused(PLAN_ROW + "\n" + STOPS + " " + piece, 2)
            self.refused(PLAN_ROW + "\n\n\n" + STOPS + "\n  " + piece + "\n" + STOPS, 5)
            self.refused(PLAN_ROW + "\n" + STOPS + "\n" + piece + "\n" + piece, 3)

    def test_a_second_plans_row(self):
        self.refused(PLAN_ROW + "\n" + PLAN_ROW + "\n" + STOPS, 2)

    def test_both_at_once(self):
        self.refused("plan 4 33 0 0 2\n0000000g", 1)
        self.refused("\n" + PLAN_ROW + "\n" + STOPS, 1)
        self.refused("0000000g", 1)
        self.refused("", 1)
        self.refused("\n\n0000000g", 1)


class TheSameAgain(unittest.TestCase):
    def test_the_same_question_has_the_same_answer(self):
        for ask in (
            lambda: made_text(TEXT, 4, 32, 2), lambda: thinned_text(TEXT, 4, 32, 2), lambda: checked_text(MADE),
            lambda: run_text(MADE, 0, 9), lambda: run_text(THINNED, 1, 9), lambda: checked_text(PLAN_ROW),
        ):
            self.assertIs(type(ask()), str)
            self.assertEqual(ask(), ask())


if __name__ == "__main__":
    unittest.main()
