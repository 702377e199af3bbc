import copy
import unittest

from fencemask.errors import NoGuest
from fencemask.guests import check_guest
from helper import LAST, MOVES, STOP, THREE_BOXES, TOP, Numbers, guest_rows, guest_with

PUT = ("put", 0, 1)


def one_box_beyond(box):
    """Instructions of which one box, in each place of each sort, is this one, and the others a guest's."""
    made = [("put", box, 7), ("jumpif", box, 0), ("through", box)]
    for sort in THREE_BOXES:
        made.extend(((sort, box, 0, 5), (sort, 1, box, 2), (sort, 5, 0, box)))
    for sort in MOVES:
        made.extend(((sort, box, 5, 3), (sort, 0, box, 3), (sort, 0, box, 0)))
    return made


class Checking(unittest.TestCase):
    def let_by(self, guest, *gates):
        with self.subTest(guest=guest, gates=gates):
            self.assertIsNone(check_guest(guest, *gates))

    def refused(self, guest, block, at, *gates):
        with self.subTest(guest=guest, gates=gates):
            with self.assertRaises(NoGuest) as taken:
                check_guest(guest, *gates)
            self.assertIs(type(taken.exception), NoGuest)
            self.assertEqual((taken.exception.block, taken.exception.at), (block, at))


class LetBy(Checking):
    def test_the_least_guest(self):
        self.let_by(((STOP,),))

    def test_numbers_of_blocks_and_instructions(self):
        for count in (1, 2, 15, 16):
            for length in (1, 2, 23, 24):
                self.let_by(((PUT,) * (length - 1) + (STOP,),) * count)

    def test_blocks_of_several_lengths(self):
        self.let_by(((STOP,), (PUT,) * 23 + (("jump", 2),), (("through", 5),), (PUT, STOP)))

    def test_each_sort_at_its_bounds(self):
        for instruction, row in guest_rows():
            self.let_by(guest_with(instruction))
            self.let_by(guest_with(instruction), 16)

    def test_each_box_in_each_place(self):
        for box in range(6):
            for instruction in one_box_beyond(box):
                self.let_by(guest_with(instruction))

    def test_all_boxes_alike(self):
        for box in (0, 5):
            for sort in THREE_BOXES:
                self.let_by(guest_with((sort, box, box, box)))

    def test_each_sort_in_each_place_of_a_block(self):
        for instruction, row in guest_rows():
            if instruction[0] not in LAST:
                behind = ((STOP,),) * 15
                self.let_by((((instruction,) + (PUT,) * 22 + (STOP,)),) + behind)
                self.let_by((((PUT,) * 22 + (instruction, STOP)),) + behind)

    def test_each_end_of_a_block(self):
        for end in (STOP, ("jump", 0), ("jump", 1), ("through", 0), ("through", 5)):
            self.let_by(((PUT, end), (end,)))
            self.let_by(((end,), (PUT,) * 23 + (end,)))

    def test_jumps_to_the_first_block_and_the_last(self):
        for count in (1, 2, 16):
            for block in range(count):
                for to in (0, count - 1):
                    for made in ((("jump", to),), (("jumpif", 5, to), STOP)):
                        self.let_by(((STOP,),) * block + (made,) + ((STOP,),) * (count - 1 - block))

    def test_gates_below_the_told_number(self):
        for gates in range(1, 17):
            for n in (0, gates - 1):
                self.let_by(guest_with(("gate", n), 1), gates)
                self.let_by(((STOP,), (PUT, ("gate", n), STOP)), gates)

    def test_sixteen_gates_where_none_are_told(self):
        for n in range(16):
            self.let_by(guest_with(("gate", n), 1))

    def test_no_gates(self):
        self.let_by(((PUT, STOP),), 0)

    def test_gates_by_name(self):
        self.assertIsNone(check_guest(guest=guest_with(("gate", 2)), gates=3))
        with self.assertRaises(NoGuest):
            check_guest(guest=guest_with(("gate", 3)), gates=3)

    def test_a_through_whatever_its_box_holds(self):
        self.let_by(((("put", 3, TOP), ("through", 3)),))

    def test_somewhat_beyond_the_bounds_of_lengths(self):
        self.let_by(((STOP,),) * 17)
        self.let_by(((PUT,) * 24 + (STOP,),))
        self.let_by(((("jump", 16),),) * 17)

    def test_guests_like_chance(self):
        numbers = Numbers(1)
        for step in range(300):
            gates = numbers.below(17)
            self.let_by(numbers.guest(gates), gates)


class Refused(Checking):
    def test_boxes_beyond_five(self):
        for box in (6, 7):
            for instruction in one_box_beyond(box):
                self.refused(guest_with(instruction), 0, 0)
                self.refused(((STOP,),) + (guest_with(instruction)[0],), 1, 0)
                self.refused(((STOP,), (PUT, PUT) + guest_with(instruction)[0]), 1, 2)

    def test_several_boxes_beyond_five(self):
        for sort in THREE_BOXES:
            for boxes in ((6, 6, 6), (7, 7, 7), (6, 7, 0), (0, 6, 7), (7, 0, 6)):
                self.refused(guest_with((sort,) + boxes), 0, 0)
        for sort in MOVES:
            self.refused(guest_with((sort, 6, 7, 0)), 0, 0)

    def test_boxes_below_nought(self):
        for instruction in one_box_beyond(-1):
            self.refused(guest_with(instruction), 0, 0)

    def test_masks(self):
        for sort in ("fit", "aim"):
            for a, b in ((0, 0), (5, 5), (6, 0), (0, 6), (6, 6), (7, 7)):
                self.refused((((sort, a, b), STOP),), 0, 0)
                self.refused(((PUT, (sort, a, b), STOP),), 0, 1)
                self.refused(((STOP,), (PUT, (sort, a, b))), 1, 1)

    def test_an_end_amid_a_block(self):
        for end in (STOP, ("jump", 0), ("jump", 1), ("through", 0), ("through", 5)):
            for last in (STOP, ("jump", 0), ("through", 1), PUT):
                self.refused(((end, last), (STOP,)), 0, 0)
                self.refused(((PUT, end, last), (STOP,)), 0, 1)
                self.refused(((STOP,), (PUT, end, PUT, last)), 1, 1)
                self.refused(((STOP,), (PUT,) * 22 + (end, last)), 1, 22)

    def test_another_sort_at_a_blocks_end(self):
        for instruction, row in guest_rows():
            if instruction[0] not in LAST:
                others = ((STOP,),) * 15
                self.refused(((instruction,),) + others, 0, 0)
                self.refused(((PUT, instruction),) + others, 0, 1)
                self.refused(others + ((PUT,) * 23 + (instruction,),), 15, 23)

    def test_jumps_to_no_block(self):
        for count in (1, 2, 3, 15, 16):
            others = ((STOP,),) * (count - 1)
            for to in (count, count + 1, 17, 1000, 2 ** 17, 2 ** 18 - 1, -1, -count):
                self.refused(((("jump", to),),) + others, 0, 0)
                self.refused(others + ((PUT, ("jump", to)),), count - 1, 1)
                for a in (0, 5):
                    self.refused(((("jumpif", a, to), STOP),) + others, 0, 0)
                    self.refused(others + ((PUT, ("jumpif", a, to), STOP),), count - 1, 1)

    def test_gates_that_are_none(self):
        for gates in range(17):
            for n in (gates, gates + 1, 17, 2 ** 17, 2 ** 18 - 1):
                self.refused(guest_with(("gate", n), 1), 0, 0, gates)
                self.refused(((STOP,), (PUT, ("gate", n), STOP)), 1, 1, gates)

    def test_gates_that_are_none_where_none_are_told(self):
        for n in (16, 17, 255, 2 ** 18 - 1):
            self.refused(guest_with(("gate", n), 1), 0, 0)

    def test_any_gate_with_no_gates(self):
        for n in range(17):
            self.refused(guest_with(("gate", n)), 0, 0, 0)

    def test_gates_are_not_blocks(self):
        self.refused(guest_with(("jump", 2), 2), 0, 0, 16)
        self.let_by(guest_with(("jump", 1), 2), 0)
        self.let_by(guest_with(("gate", 15), 1), 16)
        self.refused(guest_with(("gate", 1), 16), 0, 0, 1)

    def test_a_block_without_instructions(self):
        self.refused(((),), 0, -1)
        self.refused(((), (STOP,)), 0, -1)
        self.refused(((STOP,), ()), 1, -1)
        self.refused(((STOP,), (), (STOP,)), 1, -1)
        self.refused(((STOP,),) * 15 + ((),), 15, -1)
        self.refused(((), ()), 0, -1)

    def test_a_jump_to_a_block_without_instructions(self):
        self.refused(((("jump", 1),), ()), 1, -1)

    def test_the_first_of_two_blocks(self):
        wrong = (((), -1), ((PUT,), 0), ((PUT, ("fit", 6, 0), STOP), 1), ((("jump", 9),), 0), ((STOP, STOP), 0))
        for first, at in wrong:
            for second, there in wrong:
                self.refused((first, second), 0, at)
                self.refused(((STOP,), first, (STOP,), second), 1, at)

    def test_the_first_of_two_instructions(self):
        wrong = (("gate", 16), ("jumpif", 0, 1), ("add", 0, 6, 0), ("aim", 0, 0), STOP, ("load", 7, 0, 0))
        for first in wrong:
            for second in wrong:
                self.refused(((PUT, first, PUT, second, STOP),), 0, 1)
                self.refused(((first, second),), 0, 0)
        self.refused(((PUT, ("put", 6, 0), PUT),), 0, 1)
        self.refused(((PUT, PUT, ("put", 6, 0)),), 0, 2)

    def test_one_instruction_that_is_wrong_twice(self):
        self.refused(((("jumpif", 6, 1), STOP),), 0, 0)
        self.refused(((PUT, ("through", 7), STOP),), 0, 1)
        self.refused(((PUT, ("jump", 4), STOP),), 0, 1)

    def test_guests_like_chance_made_wrong(self):
        numbers = Numbers(2)
        for step in range(500):
            guest = [list(block) for block in numbers.guest()]
            first = None
            for turn in range(numbers.below(3) + 1):
                block = numbers.below(len(guest))
                at = numbers.below(len(guest[block]))
                wrong = [("fit", 6, 0), ("put", 6, 1), ("gate", 16), ("jumpif", 0, len(guest)), ("load", 0, 7, 0)]
                if at < len(guest[block]) - 1:
                    wrong.extend((STOP, ("jump", 0), ("through", 0)))
                guest[block][at] = numbers.pick(wrong)
                first = (block, at) if first is None else min(first, (block, at))
            self.refused(tuple(tuple(block) for block in guest), *first)


class Again(Checking):
    def test_nothing_is_changed_and_the_answer_is_the_same(self):
        numbers = Numbers(3)
        for step in range(50):
            guest = numbers.guest()
            kept = copy.deepcopy(guest)
            self.let_by(guest)
            self.let_by(guest)
            self.assertEqual(guest, kept)
            worse = guest[:-1] + (guest[-1][:-1] + (PUT,),)
            kept = copy.deepcopy(worse)
            self.refused(worse, len(guest) - 1, len(guest[-1]) - 1)
            self.refused(worse, len(guest) - 1, len(guest[-1]) - 1)
            self.assertEqual(worse, kept)
            self.let_by(guest)

    def test_gates_told_once_are_not_kept(self):
        self.refused(guest_with(("gate", 3)), 0, 0, 3)
        self.let_by(guest_with(("gate", 3)))
        self.let_by(guest_with(("gate", 3)), 4)
        self.refused(guest_with(("gate", 3)), 0, 0, 0)
        self.let_by(guest_with(("gate", 15)))


if __name__ == "__main__":
    unittest.main()
