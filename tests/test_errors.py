import unittest

from fencemask.errors import FenceError, NoGuest, NoText, NotWithin, TooLong


def refusals():
    return [NoText(3), NotWithin(8, "word"), NoGuest(2, -1), TooLong()]


class Classes(unittest.TestCase):
    def test_fence_error_is_a_value_error(self):
        self.assertEqual(FenceError.__bases__, (ValueError,))

    def test_each_stands_directly_under_fence_error(self):
        for kind in (NoText, NotWithin, NoGuest, TooLong):
            with self.subTest(kind=kind.__name__):
                self.assertEqual(kind.__bases__, (FenceError,))

    def test_none_is_taken_for_another(self):
        kinds = (NoText, NotWithin, NoGuest, TooLong)
        for made, error in enumerate(refusals()):
            for asked, kind in enumerate(kinds):
                self.assertEqual(isinstance(error, kind), made == asked)

    def test_each_is_raised_and_taken_as_any_refusal(self):
        for error in refusals():
            with self.assertRaises(FenceError) as taken:
                raise error
            self.assertIs(taken.exception, error)


class Fields(unittest.TestCase):
    def test_no_text(self):
        for line in (1, 2, 16001):
            self.assertEqual(NoText(line).line, line)
        self.assertEqual(NoText(line=7).line, 7)

    def test_not_within(self):
        for at, why in ((0, "length"), (1024, "end"), (5, "beyond")):
            error = NotWithin(at, why)
            self.assertEqual((error.at, error.why), (at, why))
        named = NotWithin(why="way", at=6)
        self.assertEqual((named.at, named.why), (6, "way"))

    def test_no_guest(self):
        for block, at in ((0, -1), (15, 23), (4, 0)):
            error = NoGuest(block, at)
            self.assertEqual((error.block, error.at), (block, at))
        named = NoGuest(at=2, block=9)
        self.assertEqual((named.block, named.at), (9, 2))

    def test_each_object_has_its_own(self):
        first, second = NotWithin(1, "word"), NotWithin(2, "host")
        self.assertEqual((first.at, first.why), (1, "word"))
        self.assertEqual((second.at, second.why), (2, "host"))


if __name__ == "__main__":
    unittest.main()
