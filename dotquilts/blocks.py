"""The blocks of symbols: their check words, reckoned for all data bits at a time, and repairing them."""

from dotquilts.bitrows import number_as_words, words_as_bits, words_as_number
from dotquilts.fields import Field
from dotquilts.repairing import mended_row, sums_of
from dotquilts.shares import SHARES
from dotquilts.sizes import BLOCKS, CHECKS, STARTS, WORD_BITS


def own_counts(size, level):
    """The list of the numbers of data words of the blocks."""
    checks = CHECKS[size - 1][level]
    return [words - checks for words in BLOCKS[size - 1]]


def shares_of(size, level, own):
    """For each data bit of a block with so many data words, what it adds to the check words, as one number."""
    # All sizes from 3 on have the same codes.
    shares = SHARES[min(size, 3) - 1][level]
    return shares[len(shares) - own * WORD_BITS[size - 1]:]


def checks_told(size, level, words):
    """The check words of a block with these data words, as one number."""
    total = 0
    for share, bit in zip(shares_of(size, level, len(words)), words_as_bits(words, WORD_BITS[size - 1])):
        if bit:
            total ^= share
    return total


def parted_data(size, level, data):
    """The list of the data words of each block, of all data words of a symbol."""
    found = []
    at = 0
    for own in own_counts(size, level):
        found.append(list(data[at:at + own]))
        at += own
    return found


def right_blocks(size, level, data):
    """The list of the blocks, lists of words, with these data words."""
    checks = CHECKS[size - 1][level]
    bits = WORD_BITS[size - 1]
    return [words + number_as_words(checks_told(size, level, words), checks, bits)
            for words in parted_data(size, level, data)]


def right_block(size, level, row):
    """The right row, a list, that a block with gaps is repaired to; None if it cannot be.

    A right row and the row have the same check words, but for the rest: so the rest alone has the sums of the row.
    """
    checks = CHECKS[size - 1][level]
    bits = WORD_BITS[size - 1]
    own = len(row) - checks
    known = [word or 0 for word in row]
    rest = checks_told(size, level, known[:own]) ^ words_as_number(known[own:], bits)
    if rest == 0 and None not in row:
        return row
    field = Field(bits)
    start = STARTS[size - 1][level]
    told = mended_row(field, start, row, sums_of(field, checks, start, number_as_words(rest, checks, bits)))
    return None if told is None else told[0]
