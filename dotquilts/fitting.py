"""Texts as the data of symbols: how much room there is, and what fills it."""

from dotquilts.bitrows import bits_as_words, words_as_bits
from dotquilts.checks import is_row
from dotquilts.errors import NoWords, TooLong
from dotquilts.fields import is_word
from dotquilts.pieces import bits_of_text, fewest_bits, need_kind, need_text
from dotquilts.ranks import needed_bits
from dotquilts.reading import text_read
from dotquilts.signs import KIND_BITS, LEAST_SIGN_BITS
from dotquilts.sizes import LEVELS, SIDES, WORD_BITS, data_bits, need_level, need_size

# For each kind from 1 on a sign of it that is of no lower kind: no texts of the kind need more bits than its.
DEAREST = ("", "0", "A", "a")


def filler(many):
    """What stands behind the pieces, where so many bits are left: the end, then 1 and 0 by turns."""
    return [0] * min(many, 2) + [1 - at % 2 for at in range(many - 2)]


def fitted_bits(text, size, level):
    """The tuple of the bits of the best pieces of a text and of how many data bits are left behind them."""
    row = bits_of_text(text)
    left = data_bits(size, level) - len(row)
    if left < 0:
        raise TooLong(-left)
    return row, left


def filled_row(text, size, level):
    """The data of a symbol for a text."""
    row, left = fitted_bits(text, size, level)
    return row + filler(left)


def pattern_of_text(text, size, level):
    """The data bits that make a text of the data of a symbol, whatever stands behind them."""
    row, left = fitted_bits(text, size, level)
    return row + [0] * KIND_BITS if left >= KIND_BITS else row


def data_row(text, size, level):
    """The list of the data bits of a symbol for a text."""
    need_text(text)
    need_size(size)
    need_level(level)
    return filled_row(text, size, level)


def room(text, size, level):
    """How many data bits are left behind the best pieces of a text, below 0 if they are too many."""
    need_text(text)
    need_size(size)
    need_level(level)
    return data_bits(size, level) - fewest_bits(text)


def least_size(text, level):
    """The least size with which there is room for a text, None if there is none."""
    need_text(text)
    need_level(level)
    bits = fewest_bits(text)
    for size in range(1, len(SIDES) + 1):
        if bits <= data_bits(size, level):
            return size
    return None


def greatest_level(text, size):
    """The greatest level with which there is room for a text, None if there is none."""
    need_text(text)
    need_size(size)
    bits = fewest_bits(text)
    for level in range(LEVELS - 1, -1, -1):
        if bits <= data_bits(size, level):
            return level
    return None


def most_signs(size, level, kind):
    """The greatest number of signs such that there is room for each text of so many signs of a kind."""
    need_size(size)
    need_level(level)
    need_kind(kind)
    bits = data_bits(size, level)
    most = bits // LEAST_SIGN_BITS
    costs = needed_bits(DEAREST[kind] * most)
    return max([many for many in range(most + 1) if costs[most - many] <= bits])


def data_words(text, size, level):
    """The list of the data words of a symbol for a text."""
    return bits_as_words(data_row(text, size, level), WORD_BITS[size - 1])


def words_text(size, words):
    """What text_of tells of the bits of some words."""
    need_size(size)
    if not is_row(words):
        raise NoWords(-1)
    for at, word in enumerate(words):
        if not is_word(WORD_BITS[size - 1], word):
            raise NoWords(at)
    return text_read(words_as_bits(words, WORD_BITS[size - 1]))
