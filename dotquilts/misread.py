"""Misreadings: what becomes of symbols of which too many dots lie, and how many must, so that others are read."""

from itertools import combinations
from math import comb

from dotquilts.bitrows import number_as_words, ones, places_set, words_as_number
from dotquilts.blocks import own_counts, right_blocks
from dotquilts.checks import is_row
from dotquilts.errors import NoSize, NoWord, TooLarge
from dotquilts.fields import Field, need_words
from dotquilts.formats import need_mask
from dotquilts.frames import Frame
from dotquilts.listing import all_rows
from dotquilts.making import unit_rows, unit_rows_within
from dotquilts.masks import masked_words
from dotquilts.sizes import BLOCKS, CHECKS, STARTS, WORD_BITS, data_bits, data_count, need_level, need_size
from dotquilts.stains import need_stain
from dotquilts.symbols import need_data, symbol_of, words_of_data, words_told

MOST_SIZE = 2
MOST_BITS = 12
MOST_DATA = 4
# Counts of sets of dots, in fields of so many bits side by side in one integer, the one of no dots lowest.
COUNT_BITS = 64


def fate(size, level, mask, data, dots):
    """What is told of a symbol of which just some dots lie: what was there, something other, or nothing."""
    need_size(size)
    need_level(level)
    need_mask(mask)
    need_data(size, level, data)
    need_stain(size, "dots", dots)
    grid = symbol_of(size, level, mask, data)
    for row, column in dots:
        grid[row][column] = 1 - grid[row][column]
    told = words_told(size, grid)
    if told is None:
        return ("refused",)
    if told == (level, mask, list(data)):
        return ("right",)
    return "other", told[0], told[1], tuple(told[2])


def few_word_rows(size, level):
    """The list of all right rows of the first block with as few words other than 0 as a right row can have."""
    field = Field(WORD_BITS[size - 1])
    many = int(CHECKS[size - 1][level])
    length = BLOCKS[size - 1][0]
    found = []
    for places in combinations(range(length), many + 1):
        unit = unit_rows_within(field, many, STARTS[size - 1][level], length, list(places))[0]
        row = [0] * length
        for place, word in zip(places, unit):
            row[place] = word
        found.extend([field.multiple(row, word) for word in range(1, field.span)])
    return found


def without_heaviest(words, many):
    """The words, of which those with the most bits, as many as are told, are 0 now."""
    order = sorted([(-ones(word), at) for at, word in enumerate(words)])
    found = list(words)
    for _, at in order[:many]:
        found[at] = 0
    return found


def dots_of_words(frame, block, words):
    """The ascending list of the dots that are set in the words of a block."""
    number = words_as_number(words, frame.bits)
    return sorted([frame.dot_of(block, place) for place in places_set(number)])


def least_lies(size, level):
    """The least number of dots that lead to other data words, a difference of data words, and dots that lead there.

    Dots lead there if they make all words of a right row but those that are repaired. Each of these words needs a
    dot at least. So it is enough to look at rows with the fewest words other than 0: there always is one that needs
    just one dot for each word, or one dot more.
    """
    need_size(size)
    if size > MOST_SIZE:
        raise NoSize(size)
    need_level(level)
    frame = Frame(size, level)
    rows = few_word_rows(size, level)
    dark = [without_heaviest(row, CHECKS[size - 1][level] // 2) for row in rows]
    numbers = [sum([ones(word) for word in words]) for words in dark]
    first = numbers.index(min(numbers))
    own = frame.own_bits[0] // frame.bits
    difference = rows[first][:own] + [0] * (data_count(size, level) - own)
    return min(numbers), tuple(difference), dots_of_words(frame, 0, dark[first])


def is_misleading(size, level, difference, dots):
    """Whether read_words tells the sums of a difference and any data words if just some dots of their symbol lie."""
    need_size(size)
    need_level(level)
    if not is_row(difference) or len(difference) != data_count(size, level):
        raise NoWord("difference", -1)
    need_words(WORD_BITS[size - 1], "difference", difference)
    need_stain(size, "dots", dots)
    frame = Frame(size, level)
    if not any(difference) or [dot for dot in dots if frame.bit_of(dot) is None]:
        return False
    for number, row in zip(frame.bits_of(dots), right_blocks(size, level, difference)):
        words = number_as_words(number, len(row), frame.bits)
        wrong = [at for at, word in enumerate(row) if word != words[at]]
        if 2 * len(wrong) > CHECKS[size - 1][level]:
            return False
    return True


def need_few_rows(size, level):
    """Refuse blocks with too many data words for all of them to be gone through."""
    if max(own_counts(size, level)) * WORD_BITS[size - 1] > MOST_BITS:
        raise TooLarge(MOST_BITS)


def rows_of_block(size, level):
    """All right rows of a block, ascending."""
    field = Field(WORD_BITS[size - 1])
    own = own_counts(size, level)[0]
    return all_rows(field, unit_rows(field, CHECKS[size - 1][level], STARTS[size - 1][level], own))


def sets_near(weights, bits, most):
    """For each number of bits how many rows have so many, and differ from a row in at most so many of its words.

    The row is told by the bits that are set in each of its words. The counts are fields of one number. Of each word
    there is the one that is right, and there are all others.
    """
    every = sum([comb(bits, many) << COUNT_BITS * many for many in range(bits + 1)])
    found = [1] + [0] * most
    for weight in weights:
        others = every - (1 << COUNT_BITS * weight)
        found = [(rows << COUNT_BITS * weight) + fewer * others for rows, fewer in zip(found, [0] + found)]
    return sum(found)


def fates(size, level):
    """For each number of dots of the first block that lie, how many sets are mended, mislead, or are refused."""
    need_size(size)
    need_level(level)
    need_few_rows(size, level)
    bits = WORD_BITS[size - 1]
    length = BLOCKS[size - 1][0]
    times = {}
    for row in rows_of_block(size, level)[1:]:
        weights = tuple(sorted([ones(word) for word in row]))
        times[weights] = times.get(weights, 0) + 1
    repairs = CHECKS[size - 1][level] // 2
    right = sets_near([0] * length, bits, repairs)
    other = sum([times[weights] * sets_near(weights, bits, repairs) for weights in times])
    found = []
    for many in range(bits * length + 1):
        counts = [number >> COUNT_BITS * many & (1 << COUNT_BITS) - 1 for number in (right, other)]
        found.append((counts[0], counts[1], comb(bits * length, many) - sum(counts)))
    return found


def light_numbers(size, level, mask, data):
    """The light word dots of each block of a symbol, as numbers."""
    frame = Frame(size, level)
    words = masked_words(size, mask, words_of_data(size, level, data))
    last = (1 << frame.bits) - 1
    return frame.numbers_of([word ^ last for word in words])


def pen_words(row, light, repairs):
    """The fewest dots, as words, that a pen makes of a block to lead it to a right row; None if it cannot.

    Words that have a bit where no dot is light are left to be repaired, and of the others as many as still can be.
    """
    words = [word if word & free == word else 0 for word, free in zip(row, light)]
    left = repairs - len([at for at, word in enumerate(row) if word != words[at]])
    return without_heaviest(words, left) if left >= 0 else None


def least_pen(size, level, mask, data):
    """The fewest light word dots that lead to other data words if they are made dark; None if there are none."""
    frame = Frame(size, level)
    rows = rows_of_block(size, level)[1:]
    found = []
    for block, number in enumerate(light_numbers(size, level, mask, data)):
        light = number_as_words(number, len(rows[0]), frame.bits)
        for row in rows:
            words = pen_words(row, light, CHECKS[size - 1][level] // 2)
            if words is not None:
                found.append((sum([ones(word) for word in words]), block, words))
    if not found:
        return None
    _, block, words = min(found)
    return dots_of_words(frame, block, words)


def pen_least(size, level, mask, data):
    """The fewest light word dots that lead to other data words if they are made dark; None if there are none."""
    need_size(size)
    need_level(level)
    need_few_rows(size, level)
    need_mask(mask)
    need_data(size, level, data)
    return least_pen(size, level, mask, data)


def safest(size, level, mask):
    """The greatest number of dots that a pen needs for any data words, and the first data words that need so many."""
    need_size(size)
    need_level(level)
    need_few_rows(size, level)
    need_mask(mask)
    if data_bits(size, level) > MOST_DATA:
        raise TooLarge(MOST_DATA)
    greatest = None
    for row in rows_of_block(size, level):
        data = tuple(row[:data_count(size, level)])
        dots = least_pen(size, level, mask, data)
        if dots is None:
            return None, data
        if greatest is None or len(dots) > greatest[0]:
            greatest = (len(dots), data)
    return greatest
