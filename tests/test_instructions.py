import unittest

from fencemask.code import instruction_at, length_of, words_of

ORDER = (
    "stop", "put", "add", "sub", "and", "or", "xor", "less", "left", "right",
    "more", "load", "store", "jump", "jumpif", "through", "fit", "aim", "gate",
)
THREE_BOXES = ("add", "sub", "and", "or", "xor", "less", "left", "right")
MOVES = ("more", "load", "store")
TOP = 2 ** 32 - 1


def word(sort, a=0, b=0, c=0, n=0):
    """The word, bit by bit from the greatest, as point [6] tells it."""
    if n < 0:
        n = n + 2 ** 18
    return int(f"{sort:05b}{a:03b}{b:03b}{c:03b}{n:018b}", 2)


def own_bits(sort):
    """The bits below the sort's five that a sort has, as point [5] lists them."""
    a, b, c, n = word(0, a=7), word(0, b=7), word(0, c=7), word(0, n=2 ** 18 - 1)
    if sort in THREE_BOXES:
        return a | b | c
    if sort in MOVES:
        return a | b | n
    return {
        "stop": 0, "put": a, "jump": n, "jumpif": a | n,
        "through": b, "fit": a | b, "aim": a | b, "gate": n,
    }[sort]


def examples():
    """Pairs of an instruction and its words, with the edges of all bounds."""
    pairs = [(("stop",), [0])]
    for a in range(8):
        for v in (0, 1, 77, 2 ** 27, 2 ** 31, TOP):
            pairs.append((("put", a, v), [word(1, a=a), v]))
    for sort in THREE_BOXES:
        number = ORDER.index(sort)
        for a, b, c in ((0, 0, 0), (7, 7, 7), (7, 0, 0), (0, 7, 0), (0, 0, 7), (1, 2, 4), (6, 5, 3)):
            pairs.append(((sort, a, b, c), [word(number, a, b, c)]))
    for sort in MOVES:
        number = ORDER.index(sort)
        for a, b in ((0, 0), (7, 7), (7, 0), (0, 7), (1, 6)):
            for n in (-(2 ** 17), -(2 ** 17) + 1, -5, -1, 0, 1, 4, 2 ** 17 - 2, 2 ** 17 - 1):
                pairs.append(((sort, a, b, n), [word(number, a, b, n=n)]))
    for n in (0, 1, 8, 2 ** 17 - 1, 2 ** 17, 2 ** 18 - 2, 2 ** 18 - 1):
        pairs.append((("jump", n), [word(13, n=n)]))
        pairs.append((("gate", n), [word(18, n=n)]))
        for a in (0, 1, 7):
            pairs.append((("jumpif", a, n), [word(14, a=a, n=n)]))
    for box in range(8):
        pairs.append((("through", box), [word(15, b=box)]))
        for sort, number in (("fit", 16), ("aim", 17)):
            pairs.append(((sort, box, 7 - box), [word(number, a=box, b=7 - box)]))
            pairs.append(((sort, box, 0), [word(number, a=box)]))
    return pairs


class WordsOf(unittest.TestCase):
    def test_written_out(self):
        asked = (
            (("stop",), [0x00000000]),
            (("put", 1, 77), [0x09000000, 0x0000004D]),
            (("add", 0, 1, 2), [0x10280000]),
            (("sub", 7, 7, 7), [0x1FFC0000]),
            (("and", 1, 0, 0), [0x21000000]),
            (("or", 0, 1, 0), [0x28200000]),
            (("xor", 0, 0, 1), [0x30040000]),
            (("less", 2, 3, 4), [0x3A700000]),
            (("left", 0, 0, 0), [0x40000000]),
            (("right", 5, 0, 6), [0x4D180000]),
            (("more", 0, 1, -5), [0x5023FFFB]),
            (("load", 0, 1, 4), [0x58200004]),
            (("store", 7, 7, -131072), [0x67E20000]),
            (("jump", 262143), [0x6803FFFF]),
            (("jumpif", 3, 16), [0x73000010]),
            (("through", 6), [0x78C00000]),
            (("fit", 6, 6), [0x86C00000]),
            (("aim", 6, 2), [0x8E400000]),
            (("gate", 15), [0x9000000F]),
        )
        self.assertEqual(tuple(instruction[0] for instruction, words in asked), ORDER)
        for instruction, words in asked:
            with self.subTest(instruction=instruction):
                self.assertEqual(words_of(instruction), words)
                self.assertEqual(instruction_at(words, 0), instruction)

    def test_each_sort_at_its_bounds(self):
        for instruction, words in examples():
            with self.subTest(instruction=instruction):
                told = words_of(instruction)
                self.assertIs(type(told), list)
                self.assertEqual(told, words)

    def test_length(self):
        for instruction, words in examples():
            with self.subTest(instruction=instruction):
                self.assertEqual(length_of(instruction), 2 if instruction[0] == "put" else 1)
                self.assertEqual(length_of(instruction), len(words_of(instruction)))

    def test_the_list_is_a_new_one(self):
        for instruction in (("put", 3, 9), ("stop",)):
            first, second = words_of(instruction), words_of(instruction)
            self.assertEqual(first, second)
            first.append(5)
            first[0] = 1
            self.assertNotEqual(first, second)
            self.assertEqual(words_of(instruction), second)


class InstructionAt(unittest.TestCase):
    def test_alone(self):
        for instruction, words in examples():
            with self.subTest(instruction=instruction):
                told = instruction_at(words, 0)
                self.assertIs(type(told), tuple)
                self.assertEqual(told, instruction)

    def test_amid_others(self):
        code, places = [], []
        for instruction, words in examples():
            places.append((len(code), instruction))
            code = code + words
        for at, instruction in places:
            with self.subTest(at=at):
                self.assertEqual(instruction_at(code, at), instruction)

    def test_each_own_bit_is_read(self):
        for number, sort in enumerate(ORDER):
            for bit in range(27):
                if own_bits(sort) >> bit & 1:
                    made = word(number) | 1 << bit
                    with self.subTest(sort=sort, bit=bit):
                        told = instruction_at([made, 0], 0)
                        self.assertEqual(told[0], sort)
                        self.assertEqual(words_of(told)[0], made)

    def test_bits_that_the_sort_has_not(self):
        for number, sort in enumerate(ORDER):
            own = own_bits(sort)
            for bit in range(27):
                if not own >> bit & 1:
                    for made in (word(number) | 1 << bit, word(number) | own | 1 << bit):
                        with self.subTest(sort=sort, bit=bit):
                            self.assertIsNone(instruction_at([made, 0], 0))
                            self.assertIsNone(instruction_at([0, made, 0], 1))

    def test_other_sorts(self):
        for number in range(19, 32):
            for made in (word(number), word(number, n=1), word(number, a=1), word(number, 7, 7, 7, 2 ** 18 - 1)):
                with self.subTest(made=made):
                    self.assertIsNone(instruction_at([made], 0))
                    self.assertIsNone(instruction_at([0, made, 0], 1))

    def test_beyond_the_code(self):
        code = [word(13, n=8), word(1, a=2), 5, 0]
        for at in (-5, -4, -2, -1, 4, 5, 1024, TOP):
            with self.subTest(at=at):
                self.assertIsNone(instruction_at(code, at))

    def test_code_without_words(self):
        for at in (-1, 0, 1, TOP):
            self.assertIsNone(instruction_at([], at))

    def test_a_put_that_is_the_last_word(self):
        for a in range(8):
            self.assertIsNone(instruction_at([word(1, a=a)], 0))
            self.assertIsNone(instruction_at([0, 0, word(1, a=a)], 2))
            self.assertIsNone(instruction_at([word(1), word(1, a=a)], 1))
            self.assertEqual(instruction_at([word(1, a=a), 0], 0), ("put", a, 0))

    def test_a_second_word_is_a_word_of_its_own(self):
        for instruction, words in examples():
            code = words_of(("put", 4, words[0])) + words[1:]
            with self.subTest(instruction=instruction):
                self.assertEqual(instruction_at(code, 0), ("put", 4, words[0]))
                self.assertEqual(instruction_at(code, 1), instruction)

    def test_a_second_word_that_is_no_instruction(self):
        for v in (1, word(19), TOP):
            code = [word(1, a=6), v, 0]
            self.assertEqual(instruction_at(code, 0), ("put", 6, v))
            self.assertIsNone(instruction_at(code, 1))

    def test_the_code_stays_and_the_answer_is_the_same(self):
        code = [word(1, a=3), 9, word(10, 1, 2, n=-7), TOP, 0]
        kept = list(code)
        first = [instruction_at(code, at) for at in range(-1, 6)]
        self.assertEqual(code, kept)
        self.assertEqual([instruction_at(code, at) for at in range(-1, 6)], first)
        self.assertEqual(first, [None, ("put", 3, 9), None, ("more", 1, 2, -7), None, ("stop",), None])

    def test_what_is_done_to_the_code_behind_a_call(self):
        code = [word(1, a=3), 9]
        told = instruction_at(code, 0)
        code[1] = 10
        self.assertEqual(told, ("put", 3, 9))
        self.assertEqual(instruction_at(code, 0), ("put", 3, 10))


if __name__ == "__main__":
    unittest.main()
