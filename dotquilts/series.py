"""Series: texts that are parted over several symbols, joined again, and what is told where symbols lack or mix."""

from dotquilts.bitrows import as_bits, as_number
from dotquilts.checks import is_row
from dotquilts.errors import NoBits, NoParts, NoSeries, TooLong, Unread
from dotquilts.fitting import filler
from dotquilts.pieces import bits_of_text, need_text
from dotquilts.ranks import needed_bits
from dotquilts.reading import need_bits, text_read
from dotquilts.signs import LEAST_SIGN_BITS, SIGNS
from dotquilts.sizes import data_bits, need_level, need_size
from dotquilts.spans import independent

MOST_PARTS = 8
# What no piece begins with: kind 1, and no signs.
MARK = (0, 1, 0, 0, 0, 0, 0)
NUMBER_BITS = 3
PARITY_BITS = 7
HEAD_BITS = 20


def parity_of(text):
    """The exclusive or of what all signs of a text are worth."""
    found = 0
    for sign in text:
        found ^= SIGNS.index(sign)
    return found


def parity(text):
    """The exclusive or of what all signs of a text are worth."""
    need_text(text)
    return parity_of(text)


def longest_part(text, bits):
    """How many signs at the front of a text, at most, need no more than so many bits."""
    begin = text[:bits // LEAST_SIGN_BITS]
    # A text backwards needs as many bits as forwards; so one way through it tells what each part at its front needs.
    costs = needed_bits(begin[::-1])
    return max([many for many in range(len(begin) + 1) if costs[len(begin) - many] <= bits])


def all_parts(text, size, level):
    """The list of the parts of a text, as few as there can be, each one as long as there is room for."""
    bits = data_bits(size, level) - HEAD_BITS
    if bits < 0:
        raise TooLong(-1)
    found = []
    left = text
    while left or not found:
        many = longest_part(left, bits)
        if (left and many == 0) or len(found) == MOST_PARTS:
            raise TooLong(-1)
        found.append(left[:many])
        left = left[many:]
    return found


def parts(text, size, level):
    """The list of the parts of a text, as few as there can be, each one as long as there is room for."""
    need_text(text)
    need_size(size)
    need_level(level)
    return all_parts(text, size, level)


def series(text, size, level):
    """The list of the data, lists of bits, of the symbols over which a text is parted."""
    need_text(text)
    need_size(size)
    need_level(level)
    told = all_parts(text, size, level)
    found = []
    for number, part in enumerate(told):
        row = list(MARK) + as_bits(number, NUMBER_BITS) + as_bits(len(told) - 1, NUMBER_BITS)
        row = row + as_bits(parity_of(text), PARITY_BITS) + bits_of_text(part)
        found.append(row + filler(data_bits(size, level) - len(row)))
    return found


def part_of(bits):
    """The tuple of the number, the last number, the parity and the text that the data of one symbol tell."""
    need_bits(bits)
    number = as_number(bits[len(MARK):len(MARK) + NUMBER_BITS])
    last = as_number(bits[len(MARK) + NUMBER_BITS:HEAD_BITS - PARITY_BITS])
    if len(bits) < HEAD_BITS or tuple(bits[:len(MARK)]) != MARK or number > last:
        raise Unread(0, "series")
    try:
        text = text_read(bits[HEAD_BITS:])[0]
    except Unread as error:
        raise Unread(error.at + HEAD_BITS, error.why) from None
    return number, last, as_number(bits[HEAD_BITS - PARITY_BITS:HEAD_BITS]), text


def texts_told(rows):
    """The tuple of the last number, the parity, and the dict from the numbers that there are, ascending, to texts."""
    if not is_row(rows) or not rows:
        raise NoBits(-1)
    told = [part_of(bits) for bits in rows]
    _, last, whole, _ = told[0]
    for at, part in enumerate(told):
        if part[1:3] != (last, whole):
            raise NoSeries("mixed", [at])
    texts = {}
    for number in range(last + 1):
        of_number = [part[3] for part in told if part[0] == number]
        if [text for text in of_number if text != of_number[0]]:
            raise NoSeries("twice", [number])
        if of_number:
            texts[number] = of_number[0]
    return last, whole, texts


def joined(rows):
    """The text of a series, of the data of its symbols."""
    last, whole, texts = texts_told(rows)
    lacking = [number for number in range(last + 1) if number not in texts]
    if lacking:
        raise NoSeries("lacking", lacking)
    text = "".join([texts[number] for number in range(last + 1)])
    if parity_of(text) != whole:
        raise NoSeries("parity", [])
    return text


def need_part_texts(which, texts):
    """Refuse a row in which an item is no text."""
    for at, text in enumerate(texts):
        if not isinstance(text, str) or [sign for sign in text if sign not in SIGNS]:
            raise NoParts(which, at)


def need_two_series(one, other):
    """Refuse what are no parts of two texts, as many of both, with the same parity."""
    if not is_row(one) or not 1 <= len(one) <= MOST_PARTS:
        raise NoParts("one", -1)
    need_part_texts("one", one)
    if not is_row(other) or len(other) != len(one):
        raise NoParts("other", -1)
    need_part_texts("other", other)
    if parity_of("".join(one)) != parity_of("".join(other)):
        raise NoSeries("mixed", [])


def mixtures(one, other):
    """The ascending list of all texts that come of the parts of the one text or of the other one."""
    need_two_series(one, other)
    choices = [("", 0)]
    for pair in zip(one, other):
        worths = [(part, parity_of(part)) for part in pair]
        choices = [(text + part, told ^ worth) for text, told in choices for part, worth in worths]
    whole = parity_of("".join(one))
    return sorted(set([text for text, told in choices if told == whole]))


def mixtures_number(one, other):
    """How many of all choices between the parts of two texts are not refused."""
    need_two_series(one, other)
    unlike = [parity_of(part) ^ parity_of(more) for part, more in zip(one, other)]
    return 1 << len(one) - len(independent(unlike))


def lost(rows):
    """The last number, the parity, and the dict from numbers to texts that are told of a series in which some lack."""
    return texts_told(rows)


def missing_parity(rows):
    """The exclusive or of the parities of all parts that lack."""
    _, whole, texts = texts_told(rows)
    return whole ^ parity_of("".join([texts[number] for number in texts]))
