"""The machine and the checker together: what is let by keeps within, from each bundle, whatever the boxes hold."""

import unittest

from fencemask.checker import check
from fencemask.machine import run
from helper import THREE_BOXES, TOP, W, Numbers, Within, code_of, let_by

PLANS = (
    (4, 32, 0, 0, 2), (4, 32, 1, 1, 3), (0, 5, 1, 0, 1), (20, W - 2 ** 20, 2, 0, 16), (3, 0, 0, 2, 1),
    (20, 2 ** 20, 1, 1, 4), (6, 2 ** 31, 2, 1, 2), (0, TOP, 0, 1, 0), (1, W - 2, 1, 0, 1), (10, 0, 3, 0, 2),
)


def count_of(plan):
    return 8 * 2 ** (plan[2] + plan[3])


def candidate(plan, numbers):
    """Instructions that might be let by: masked ones, plain ones, and ones that hang on the spans ahead."""
    k, base, m, s, gates = plan
    a, b, c = [numbers.below(7) for box in range(3)]
    any_box = numbers.below(8)
    place = base + numbers.below(2 ** k)
    n = numbers.below(9) - 4
    groups = (
        [(numbers.pick(THREE_BOXES), a, any_box, c)], [(numbers.pick(THREE_BOXES), a, b, any_box)],
        [(numbers.pick(THREE_BOXES), a, a, c)],
        [("put", a, numbers.value())], [("put", a, 8 * numbers.below(16))], [("put", a, numbers.below(33))],
        [("put", a, place)],
        [("more", a, b, n)], [("more", a, any_box, numbers.pick((8, -8, 16, 2 ** 17 - 1, -(2 ** 17))))],
        [("fit", a, any_box)], [("aim", a, any_box)], [("fit", a, any_box), ("load", b, a, 0)],
        [("fit", a, any_box), ("store", any_box, a, 0)],
        [("load", a, b, 0)], [("store", any_box, b, 0)], [("load", a, b, n)], [("store", a, b, n)],
        [("put", a, place - n if 0 <= place - n < W else place), ("store", b, a, n)],
        [("jumpif", any_box, 8 * numbers.below(count_of(plan) // 8))],
        [("jump", 8 * numbers.below(count_of(plan) // 8))],
        [("through", a)], [("aim", a, any_box), ("through", a)], [("gate", numbers.below(17))], [("gate", 0)],
        [("stop",)],
    )
    return code_of(*numbers.pick(groups))


def some_code(plan, numbers):
    """Code that is let by, instruction by instruction; what is refused isn't taken."""
    count = count_of(plan)
    code = []
    for step in range(3 * count):
        longer = code + candidate(plan, numbers)
        if len(longer) < count and let_by(plan, longer + [0] * (count - len(longer))):
            code = longer
    return code + [0] * (count - len(code))


def some_stand(plan, place, numbers):
    return (place, numbers.values(8), numbers.memory(plan))


class Together(Within):
    def test_what_is_let_by_keeps_within(self):
        numbers = Numbers(21)
        done = {}
        for step in range(60):
            plan = PLANS[step % len(PLANS)]
            code = some_code(plan, numbers)
            self.assertIsNone(check(plan, code))
            for place in range(0, len(code), 8):
                for again in range(2):
                    stand = some_stand(plan, place, numbers)
                    for sort in self.walk(plan, code, stand, numbers.replies(plan), 40):
                        done[sort] = done.get(sort, 0) + 1
        # All sorts were done, or this would show little.
        self.assertEqual(len(done), 19, done)
        self.assertGreater(min(done.values()), 20, done)

    def test_the_greatest_boxes_and_the_least(self):
        numbers = Numbers(22)
        for step in range(30):
            plan = PLANS[step % len(PLANS)]
            code = some_code(plan, numbers)
            for place in range(0, len(code), 8):
                for value in (0, 1, TOP, plan[1], plan[1] - 1 & TOP, plan[1] + 2 ** plan[0] & TOP, 8, 2 ** 31):
                    replies = [((value,) * 7, {}), ((value ^ TOP,) * 7, {plan[1]: value})]
                    self.walk(plan, code, (place, (value,) * 8, {plan[1]: value}), replies, 30)

    def test_changed_bits_are_refused_or_keep_within(self):
        numbers = Numbers(23)
        for plan in ((4, 32, 1, 0, 2), (20, W - 2 ** 20, 0, 1, 16), (6, 64, 1, 1, 1), (0, 5, 1, 0, 3)):
            by, refused = self.changed_bits_keep_within(plan, some_code(plan, numbers), numbers, 12)
            self.assertGreater(min(by, refused), 50)

    def test_code_that_is_run_through_all_its_blocks(self):
        plan = (4, 32, 2, 0, 1)
        bundle = code_of(
            ("fit", 6, 0), ("load", 1, 6, 0), ("more", 1, 1, 1), ("store", 1, 6, 0), ("more", 0, 0, 1),
            ("gate", 0), ("aim", 6, 0), ("through", 6),
        )
        replies = [((step, 0, 0, 0, 0, 0, step), {}) for step in range(20)]
        for place in (0, 8, 16, 24):
            stand = (place, (0,) * 7 + (9,), {31: 5, 48: 6})
            done = self.walk(plan, bundle * 4, stand, replies, 1000)
            self.assertEqual(done.count("through"), 20)
            end, behind, rows, turns = run(plan, bundle * 4, stand, replies, 1000)
            self.assertEqual((end, turns), (("asks", 0), 20 * 8 + 6))
            self.assertEqual(sum(behind[2][at] for at in range(32, 48)), 21)

    def test_without_the_checker_runs_do_reach_out(self):
        # So the test above could fail: the same boxes, with the masks left out.
        plan = (4, 32, 1, 0, 1)
        for code, end in (
            (code_of(("store", 0, 1, 0)) + [0] * 15, ("beyond", 99)),
            (code_of(("through", 1)) + [0] * 15, ("lost",)), (code_of(("gate", 1)) + [0] * 15, ("lost",)),
        ):
            self.assertFalse(let_by(plan, code))
            self.assertEqual(run(plan, code, (0, (0, 99, 0, 0, 0, 0, 0, 0), {}), [], 9)[0], end)


if __name__ == "__main__":
    unittest.main()
