"""Code: instructions as words, and words as text."""

from fencemask.bits import rest, signed
from fencemask.errors import NoText

# A sort's number in a word is its place in this row.
SORTS = (
    "stop", "put", "add", "sub", "and", "or", "xor", "less", "left", "right",
    "more", "load", "store", "jump", "jumpif", "through", "fit", "aim", "gate",
)

# What a sort has in its first word, in the order of the instruction's tuple.
# "move" and "n" share their bits, but a move may be below nought.
FIELDS = {
    "stop": (),
    "put": ("a",),
    "add": ("a", "b", "c"),
    "sub": ("a", "b", "c"),
    "and": ("a", "b", "c"),
    "or": ("a", "b", "c"),
    "xor": ("a", "b", "c"),
    "less": ("a", "b", "c"),
    "left": ("a", "b", "c"),
    "right": ("a", "b", "c"),
    "more": ("a", "b", "move"),
    "load": ("a", "b", "move"),
    "store": ("a", "b", "move"),
    "jump": ("n",),
    "jumpif": ("a", "n"),
    "through": ("b",),
    "fit": ("a", "b"),
    "aim": ("a", "b"),
    "gate": ("n",),
}

DIGITS = "0123456789abcdef"


def field_bits(field, number):
    if field == "a":
        return number * 2 ** 24
    if field == "b":
        return number * 2 ** 21
    if field == "c":
        return number * 2 ** 18
    return rest(number, 18)


def field_number(field, word):
    if field == "a":
        return rest(word // 2 ** 24, 3)
    if field == "b":
        return rest(word // 2 ** 21, 3)
    if field == "c":
        return rest(word // 2 ** 18, 3)
    if field == "move":
        return signed(rest(word, 18), 18)
    return rest(word, 18)


def first_word(instruction):
    sort = instruction[0]
    word = SORTS.index(sort) * 2 ** 27
    # A put's v is left over here: it has no bits in the first word.
    for field, number in zip(FIELDS[sort], instruction[1:]):
        word = word + field_bits(field, number)
    return word


def words_of(instruction):
    if instruction[0] == "put":
        return [first_word(instruction), instruction[2]]
    return [first_word(instruction)]


def length_of(instruction):
    return 2 if instruction[0] == "put" else 1


def one_word_instruction(word):
    number = word // 2 ** 27
    if number < 0 or number >= len(SORTS):
        return None
    sort = SORTS[number]
    numbers = [field_number(field, word) for field in FIELDS[sort]]
    instruction = tuple([sort] + numbers)
    # A bit that the sort hasn't was passed over above, so it would be lacking here.
    if first_word(instruction) != word:
        return None
    return instruction


def instruction_at(code, at):
    if at < 0 or at >= len(code):
        return None
    instruction = one_word_instruction(code[at])
    if instruction is None or instruction[0] != "put":
        return instruction
    if at + 1 == len(code):
        return None
    return ("put", instruction[1], code[at + 1])


def read_word(piece):
    if len(piece) != 8:
        return None
    word = 0
    for sign in piece:
        digit = DIGITS.find(sign)
        if digit < 0:
            return None
        word = word * 16 + digit
    return word


def read_row(row, line):
    words = []
    # Blanks alone part pieces, so the split names them; several in a row leave empty pieces.
    for piece in row.split(" "):
        if piece != "":
            word = read_word(piece)
            if word is None:
                raise NoText(line)
            words.append(word)
    return words


def read_code(text):
    code = []
    for line, row in enumerate(text.split("\n"), start=1):
        code.extend(read_row(row, line))
    return code


def word_text(word):
    text = ""
    left = word
    for step in range(8):
        text = DIGITS[left % 16] + text
        left = left // 16
    return text


def row_text(words):
    return " ".join([word_text(word) for word in words])


def code_text(code):
    return "\n".join([row_text(code[at:at + 8]) for at in range(0, len(code), 8)])
