import unittest

from fencemask.checker import check, spans_ahead
from fencemask.errors import NotWithin
from helper import ALL, THREE_BOXES, TOP, W, code_of, filled, multiples

# The room is the 16 places from 32 on; the code is one bundle.
PLAN = (4, 32, 0, 0, 3)
# The same room; the code is 2 blocks of 2 bundles.
FOUR = (4, 32, 1, 1, 3)
WHOLE = (ALL,) * 8
ROOM = (32, 47, 0)
NO_WORDS = (1, 19 * 2 ** 27, TOP, 2 ** 27 + 1)


def spans(**boxes):
    """All spans, but those of the boxes named b0 to b7."""
    return tuple(boxes.get(f"b{box}", ALL) for box in range(8))


class Checked(unittest.TestCase):
    def tells(self, plan, code, told):
        self.assertIsNone(check(plan, code))
        answer = spans_ahead(plan, code)
        self.assertIs(type(answer), list)
        self.assertEqual(answer, told)

    def refuses(self, plan, code, at, why):
        kept = list(code)
        for ask in (check, spans_ahead, check):
            with self.subTest(plan=plan, ask=ask.__name__, at=at, why=why):
                with self.assertRaises(NotWithin) as taken:
                    ask(plan, code)
                self.assertEqual((taken.exception.at, taken.exception.why), (at, why))
                self.assertEqual(code, kept)


class LetBy(Checked):
    def test_stops(self):
        for m, s in ((0, 0), (1, 0), (0, 1), (2, 1), (7, 0), (0, 7), (3, 4)):
            count = 8 * 2 ** (m + s)
            self.tells((4, 32, m, s, 0), [0] * count, [WHOLE] * count)

    def test_the_spans_of_one_bundle(self):
        code = code_of(
            ("put", 0, 12), ("fit", 1, 2), ("load", 3, 1, 0), ("add", 0, 0, 0), ("store", 0, 1, 0), ("jump", 0),
            ("stop",),
        )
        self.tells(PLAN, code, [
            WHOLE, None, spans(b0=(12, 12, 2)), spans(b0=(12, 12, 2), b1=ROOM), spans(b0=(12, 12, 2), b1=ROOM),
            spans(b0=(24, 24, 3), b1=ROOM), spans(b0=(24, 24, 3), b1=ROOM), spans(b0=(24, 24, 3), b1=ROOM),
        ])

    def test_each_sort_that_makes_a_box(self):
        ahead = (("put", 1, 40), ("fit", 2, 0))
        start = spans(b1=(40, 40, 3), b2=ROOM)
        for instruction, box, span in (
            (("put", 2, 6), 2, (6, 6, 1)),
            (("add", 3, 1, 2), 3, (72, 87, 0)),
            (("sub", 3, 2, 1), 3, ALL),
            (("sub", 3, 2, 2), 3, ALL),
            (("and", 3, 0, 1), 3, (0, 40, 3)),
            (("or", 3, 2, 1), 3, (40, 63, 0)),
            (("xor", 3, 1, 2), 3, (0, 63, 0)),
            (("less", 3, 1, 2), 3, (0, 1, 0)),
            (("left", 3, 2, 1), 3, (32 * 256, 47 * 256, 8)),
            (("right", 3, 0, 1), 3, (0, 2 ** 24 - 1, 0)),
            (("right", 3, 2, 2), 3, (0, 47, 0)),
            (("more", 3, 1, -8), 3, (32, 32, 5)),
            (("more", 2, 2, 3), 2, (35, 50, 0)),
            (("load", 2, 1, 7), 2, ALL),
            (("fit", 3, 1), 3, (40, 40, 3)),
            (("fit", 1, 0), 1, ROOM),
            (("aim", 2, 0), 2, (0, 0, 32)),
            (("add", 1, 1, 1), 1, (80, 80, 4)),
        ):
            behind = start[:box] + (span,) + start[box + 1:]
            told = [WHOLE, None, spans(b1=(40, 40, 3)), start]
            told += [None] if instruction[0] == "put" else []
            with self.subTest(instruction=instruction):
                self.tells(PLAN, filled(ahead + (instruction,), 8), told + [behind] * (8 - len(told)))

    def test_the_box_that_is_made_comes_behind_those_that_are_read(self):
        code = filled([("put", 1, 8), ("put", 2, 3), ("sub", 1, 1, 2), ("left", 2, 1, 2)], 8)
        ahead = spans(b1=(8, 8, 3), b2=(3, 3, 0))
        between = spans(b1=(5, 5, 0), b2=(3, 3, 0))
        behind = spans(b1=(5, 5, 0), b2=(40, 40, 3))
        self.tells(PLAN, code, [WHOLE, None, spans(b1=(8, 8, 3)), None, ahead, between, behind, behind])

    def test_box_7_may_be_read(self):
        code = filled(
            [("fit", 0, 7), ("store", 7, 0, 0), ("add", 1, 7, 7), ("jumpif", 7, 0), ("aim", 2, 7), ("through", 2)],
            8,
        )
        made = spans(b0=ROOM)
        self.tells(PLAN, code, [WHOLE] + [made] * 4 + [spans(b0=ROOM, b2=(0, 0, 32))] * 3)

    def test_sorts_that_make_no_box_leave_all_spans(self):
        for instruction in (("stop",), ("store", 1, 1, 0), ("jump", 0), ("jumpif", 1, 0), ("through", 2)):
            made = spans(b1=(40, 40, 3), b2=(0, 0, 32))
            code = filled([("put", 1, 40), ("put", 2, 0), instruction], 8)
            self.tells(PLAN, code, [WHOLE, None, spans(b1=(40, 40, 3)), None, made, made, made, made])

    def test_behind_a_gate(self):
        code = filled([("put", 0, 1), ("put", 6, 5), ("gate", 2)], 8)
        made = spans(b0=(1, 1, 0), b6=(5, 5, 0))
        self.tells(PLAN, code, [WHOLE, None, spans(b0=(1, 1, 0)), None, made, WHOLE, WHOLE, WHOLE])

    def test_behind_a_gate_each_box_is_made_anew(self):
        for box in range(7):
            code = filled([("put", box, 32), ("store", 0, box, 0), ("gate", 0), ("load", 0, box, 0)], 8)
            self.refuses(PLAN, code, 4, "beyond")

    def test_each_bundle_begins_with_all(self):
        row = [
            ("put", 1, 32), ("fit", 2, 0), ("store", 1, 2, 0), ("more", 3, 2, 4), ("jumpif", 1, 8),
            ("more", 0, 0, 0), ("stop",),
        ]
        one = spans(b1=(32, 32, 5))
        two = spans(b1=(32, 32, 5), b2=ROOM)
        three = spans(b1=(32, 32, 5), b2=ROOM, b3=(36, 51, 0))
        bundle = [WHOLE, None, one, two, two, three, three, three]
        self.tells(FOUR, code_of(*row * 4), bundle * 4)

    def test_a_bundle_may_go_on_into_the_next(self):
        code = code_of(*[("more", 1, 1, 4)] * 15, ("stop",))
        self.tells((4, 32, 1, 0, 0), code, [WHOLE] * 16)
        code = filled([("put", 1, 32)] * 4, 16)
        told = [WHOLE, None] + [spans(b1=(32, 32, 5)), None] * 3 + [WHOLE] * 8
        self.tells((4, 32, 1, 0, 0), code, told)

    def test_loads_and_stores_at_the_rooms_ends(self):
        for k, base in ((4, 32), (4, 0), (0, 5), (20, W - 2 ** 20), (0, TOP), (20, 0)):
            plan = (k, base, 0, 0, 0)
            last = base + 2 ** k - 1
            for sort in ("load", "store"):
                for place, n in ((base, 0), (last, 0), (base - 3, 3), (base + 3, -3), (last - 9, 9), (last + 9, -9)):
                    if 0 <= place < W:
                        self.assertIsNone(check(plan, filled([("put", 1, place), (sort, 0, 1, n)], 8)))
                self.assertIsNone(check(plan, filled([("fit", 1, 0), (sort, 0, 1, 0)], 8)))

    def test_jumps_to_each_bundle(self):
        for n in (0, 8, 16, 24):
            self.assertIsNone(check(FOUR, filled([("jumpif", 0, n), ("jump", n)], 32)))

    def test_throughs(self):
        for v in (0, 8, 16, 24):
            self.assertIsNone(check(FOUR, filled([("put", 1, v), ("through", 1)], 32)))
        self.assertIsNone(check(FOUR, filled([("aim", 1, 0), ("through", 1)], 32)))
        self.assertIsNone(check(FOUR, filled([("put", 1, 24), ("and", 2, 0, 1), ("through", 2)], 32)))

    def test_the_last_instruction(self):
        for last in (("stop",), ("jump", 0), ("through", 6)):
            self.assertIsNone(check(PLAN, code_of(("aim", 6, 0), *[("more", 0, 0, 1)] * 6, last)))

    def test_each_gate(self):
        for gates in (1, 16):
            for n in range(gates):
                self.assertIsNone(check((4, 32, 0, 0, gates), filled([("gate", n)], 8)))

    def test_a_puts_second_word_may_be_anything(self):
        for v in NO_WORDS + (code_of(("gate", 99))[0], code_of(("put", 7, 0))[0]):
            self.assertIsNone(check(PLAN, filled([("put", 0, v)], 8)))


class Refused(Checked):
    def test_length(self):
        for m, s in ((0, 0), (1, 0), (0, 1), (3, 4)):
            right = 8 * 2 ** (m + s)
            for count in (0, 1, right - 8, right - 1, right + 1, right + 8, 2 * right):
                if count != right:
                    self.refuses((4, 32, m, s, 0), [0] * count, 0, "length")

    def test_length_goes_ahead_of_all_else(self):
        self.refuses(PLAN, [TOP] * 9, 0, "length")
        self.refuses(PLAN, [0, TOP], 0, "length")
        self.refuses(PLAN, code_of(*[("more", 7, 7, 0)] * 16), 0, "length")
        self.refuses(FOUR, code_of(*[("more", 0, 0, 0)] * 8), 0, "length")

    def test_no_instruction(self):
        for word in NO_WORDS:
            for at in range(8):
                code = [0] * 8
                code[at] = word
                self.refuses(PLAN, code, at, "word")
            self.refuses(PLAN, [0, 0, word, word, 0, 0, TOP, code_of(("more", 7, 0, 0))[0]], 2, "word")

    def test_a_put_at_a_bundles_end(self):
        put = code_of(("put", 1, 0))[0]
        for at in (7, 15, 23, 31):
            code = [0] * 32
            code[at] = put
            self.refuses(FOUR, code, at, "word")
        # Three puts fill six words, so the fourth one here begins with the bundle's eighth.
        self.refuses(FOUR, filled([("stop",)] + [("put", 1, 5)] * 4, 32), 7, "word")
        self.refuses(FOUR, filled([("stop",)] * 7 + [("put", 7, 5)], 32), 7, "word")

    def test_host(self):
        makers = [
            ("put", 7, 5), ("more", 7, 7, 0), ("load", 7, 1, 0), ("fit", 7, 1), ("fit", 7, 7), ("aim", 7, 0),
            ("and", 7, 7, 7), ("or", 7, 7, 7),
        ]
        makers += [(sort, 7, 1, 2) for sort in THREE_BOXES]
        for instruction in makers:
            self.refuses(PLAN, filled([("put", 1, 32), instruction, ("gate", 9)], 8), 2, "host")

    def test_beyond(self):
        for k, base in ((4, 32), (4, 0), (0, 5), (20, W - 2 ** 20), (0, TOP), (20, 0), (20, 2 ** 20)):
            plan = (k, base, 0, 0, 0)
            last = base + 2 ** k - 1
            for sort in ("load", "store"):
                for place, n in (
                    (base, -1), (last, 1), (base - 1, 0), (last + 1, 0), (base - 4, 3), (last + 4, -3),
                    (last, 2 ** 17 - 1), (base, -(2 ** 17)),
                ):
                    if 0 <= place < W and not base <= place + n <= last:
                        code = filled([("put", 1, place), (sort, 0, 1, n), ("put", 7, 0)], 8)
                        self.refuses(plan, code, 2, "beyond")
                for n in (1, -1):
                    self.refuses(plan, filled([("fit", 1, 0), (sort, 0, 1, n)], 8), 1, "beyond")
                self.refuses(plan, filled([(sort, 0, 1, 0)], 8), 0, "beyond")

    def test_beyond_by_one_end_of_the_span(self):
        for ahead, n, why in (
            (("more", 2, 1, -1), 0, "beyond"), (("more", 2, 1, 1), 0, "beyond"), (("more", 2, 1, -1), 1, None),
            (("more", 2, 1, 1), -1, None),
            (("more", 2, 1, -5), 5, None), (("more", 2, 1, -5), 4, "beyond"), (("more", 2, 1, -5), 6, "beyond"),
        ):
            code = filled([("fit", 1, 0), ahead, ("load", 3, 2, n)], 8)
            if why is None:
                self.assertIsNone(check(PLAN, code))
            else:
                self.refuses(PLAN, code, 2, why)

    def test_a_place_that_comes_in_again_at_the_other_end(self):
        self.refuses(PLAN, filled([("put", 1, TOP), ("load", 0, 1, 33)], 8), 2, "beyond")
        self.refuses((4, W - 16, 0, 0, 0), filled([("put", 1, 0), ("load", 0, 1, -1)], 8), 2, "beyond")

    def test_spans_end_with_their_bundle(self):
        code = filled([("fit", 1, 0)] + [("more", 0, 0, 0)] * 7 + [("load", 0, 1, 0), ("put", 7, 0)], 32)
        self.refuses(FOUR, code, 8, "beyond")

    def test_target(self):
        for n in (1, 2, 3, 4, 5, 6, 7, 9, 12, 28, 31, 32, 33, 40, 2 ** 17, 2 ** 18 - 8, 2 ** 18 - 1):
            self.refuses(FOUR, filled([("stop",), ("jump", n), ("gate", 9)], 32), 1, "target")
            self.refuses(FOUR, filled([("stop",), ("jumpif", 0, n), ("gate", 9)], 32), 1, "target")
        self.refuses(PLAN, filled([("jump", 8)], 8), 0, "target")
        self.refuses((4, 32, 3, 4, 0), filled([("jump", 1024)], 1024), 0, "target")

    def test_way_of_one_value(self):
        for v in (1, 4, 7, 9, 12, 20, 31, 32, 40, 2 ** 31, TOP):
            self.refuses(FOUR, filled([("put", 1, v), ("through", 1), ("gate", 9)], 32), 2, "way")

    def test_way_of_several(self):
        for box in range(8):
            self.refuses(FOUR, filled([("through", box), ("gate", 9)], 32), 0, "way")
        for mask, why in (
            (24, None), (28, "way"), (16, None), (56, "way"), (31, "way"), (8, None), (20, "way"),
            (W - 8, "way"),
        ):
            code = filled([("put", 1, mask), ("and", 2, 0, 1), ("through", 2), ("gate", 9)], 32)
            # What is let by here is refused for the gate behind it.
            self.refuses(FOUR, code, 3 if why else 4, why or "gate")

    def test_way_with_z_2_and_3(self):
        # 0 or 4, then 0 or 8: the ends are within the words, but 4 is no bundle's begin.
        def moved_by(t):
            return filled([("put", 1, 1), ("and", 2, 0, 1), ("put", 1, t), ("left", 2, 2, 1), ("through", 2)], 32)

        self.refuses(FOUR, moved_by(2), 6, "way")
        self.assertIsNone(check(FOUR, moved_by(3)))

    def test_gate(self):
        for gates, n in ((0, 0), (1, 1), (3, 3), (3, 4), (16, 16), (16, 2 ** 18 - 1)):
            self.refuses((4, 32, 0, 0, gates), filled([("stop",), ("gate", n), ("put", 7, 0)], 8), 1, "gate")

    def test_end(self):
        lasts = [
            ("more", 0, 0, 0), ("jumpif", 0, 0), ("gate", 0), ("fit", 0, 0), ("aim", 0, 0), ("load", 0, 1, 0),
            ("store", 0, 1, 0),
        ]
        lasts += [(sort, 0, 1, 2) for sort in THREE_BOXES]
        for last in lasts:
            self.refuses(PLAN, code_of(("fit", 1, 1), *[("stop",)] * 6, last), 8, "end")
            code = [0] * 24 + code_of(("fit", 1, 1), *[("stop",)] * 6, last)
            self.refuses(FOUR, code, 32, "end")

    def test_end_by_a_put_whose_second_word_would_be_a_stop(self):
        for v in (0, code_of(("jump", 0))[0], 77):
            self.refuses(PLAN, [0] * 6 + code_of(("put", 0, v)), 8, "end")

    def test_end_comes_behind_all(self):
        self.refuses(PLAN, code_of(*[("more", 0, 0, 0)] * 7, ("gate", 3)), 7, "gate")
        self.refuses(PLAN, code_of(*[("more", 0, 0, 0)] * 7, ("load", 0, 0, 0)), 7, "beyond")
        self.refuses(PLAN, code_of(*[("more", 0, 0, 0)] * 7, ("jumpif", 0, 4)), 7, "target")

    def test_several_things_wrong_with_one_instruction(self):
        self.refuses(PLAN, filled([("load", 7, 0, 0)], 8), 0, "host")
        self.refuses(PLAN, filled([("stop",)] * 7 + [("put", 7, 0)], 9)[:8], 7, "word")
        self.refuses(FOUR, filled([("jump", 33)], 32), 0, "target")
        self.refuses(FOUR, filled([("put", 1, 33), ("through", 1)], 32), 2, "way")

    def test_the_first_word_is_told_whatever_its_reason(self):
        wrong = [
            ("word", [TOP]), ("host", code_of(("more", 7, 7, 0))), ("beyond", code_of(("store", 0, 0, 0))),
            ("target", code_of(("jump", 4))), ("way", code_of(("through", 0))), ("gate", code_of(("gate", 3))),
        ]
        for first, words in wrong:
            for second, others in wrong:
                code = [0] * 5 + words + [0] * 4 + others + [0] * 21
                self.refuses(FOUR, code, 5, first)

    def test_a_puts_second_word_counts(self):
        self.refuses(PLAN, filled([("put", 1, 5), ("put", 2, 6), ("gate", 3)], 8), 4, "gate")

    def test_words_behind_a_jump_are_checked_too(self):
        self.refuses(PLAN, filled([("stop",), ("jump", 0), ("load", 0, 0, 0)], 8), 2, "beyond")


class WhatIsHandedIn(Checked):
    def test_it_stays_as_it_was_and_the_answer_is_the_same(self):
        code = filled([("put", 1, 32), ("load", 0, 1, 0), ("gate", 1)], 8)
        kept = list(code)
        first = spans_ahead(PLAN, code)
        self.assertIsNone(check(PLAN, code))
        self.assertEqual(code, kept)
        self.assertEqual(spans_ahead(PLAN, code), first)
        self.assertIsNone(check(PLAN, code))

    def test_the_list_is_a_new_one(self):
        code = filled([("put", 1, 32), ("load", 0, 1, 0), ("gate", 1)], 8)
        first, second = spans_ahead(PLAN, code), spans_ahead(PLAN, code)
        kept = list(second)
        first[0] = None
        first.append(1)
        self.assertEqual(second, kept)
        self.assertEqual(spans_ahead(PLAN, code), kept)
        code[2] = TOP
        self.assertEqual(second, kept)
        self.refuses(PLAN, code, 2, "word")

    def test_kinds(self):
        told = spans_ahead(PLAN, filled([("put", 1, 32), ("and", 2, 0, 1)], 8))
        for at, row in enumerate(told):
            if at != 1:
                self.assertIs(type(row), tuple)
                self.assertEqual([type(span) for span in row], [tuple] * 8)

    def test_one_answer_after_another_refusal(self):
        self.refuses(PLAN, [TOP] * 8, 0, "word")
        self.tells(PLAN, [0] * 8, [WHOLE] * 8)
        self.refuses(PLAN, [TOP] * 8, 0, "word")


class Wide(Checked):
    def test_the_greatest_code(self):
        code = code_of(*([("aim", 1, 0)] + [("more", 0, 0, 0)] * 6 + [("through", 1)]) * 128)
        told = spans_ahead((4, 32, 7, 0, 0), code)
        self.assertEqual(told, ([WHOLE] + [spans(b1=(0, 1016, 3))] * 7) * 128)

    def test_masks_made_otherwise(self):
        # A mask by and, an or with the base: such words are let by, whoever made them.
        code = filled([("put", 1, 15), ("and", 2, 0, 1), ("put", 1, 32), ("or", 2, 2, 1), ("store", 0, 2, 0)], 8)
        self.assertEqual(spans_ahead((5, 32, 0, 0, 0), code)[-1], spans(b1=(32, 32, 5), b2=(32, 63, 0)))
        self.refuses(PLAN, code, 6, "beyond")
        code = filled([("put", 1, 3), ("and", 2, 0, 1), ("left", 2, 2, 1), ("through", 2)], 8)
        self.assertEqual(spans_ahead((4, 32, 2, 0, 0), code + [0] * 24)[4], spans(b1=(3, 3, 0), b2=(0, 24, 3)))
        self.refuses(PLAN, code, 4, "way")

    def test_multiples_that_pass_all_values(self):
        code = filled([("put", 1, 3), ("left", 2, 0, 1), ("add", 2, 2, 2)], 8)
        self.assertEqual(spans_ahead(PLAN, code)[-1], spans(b1=(3, 3, 0), b2=multiples(3)))


if __name__ == "__main__":
    unittest.main()
