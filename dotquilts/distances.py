"""Distances, in dots: between right rows, between symbols, and from dots to the nearest rows."""

from dotquilts.bitrows import as_number, number_as_words, ones, places_set, words_as_number
from dotquilts.checks import is_bit, is_number_to, is_row
from dotquilts.codes import is_length, need_code, need_length
from dotquilts.errors import NoFormat, NoNumber, NoWord, TooLarge
from dotquilts.fields import Field, need_words
from dotquilts.formats import MASKS, word_of_format
from dotquilts.frames import Frame
from dotquilts.listing import all_rows
from dotquilts.making import unit_rows, unit_rows_within
from dotquilts.masks import masked_words
from dotquilts.sizes import LEVELS, STRIP, WORD_BITS, data_count, need_size
from dotquilts.slices import counts_in, every_index, least_in, sliced_sum, tables_of
from dotquilts.spans import independent
from dotquilts.symbols import words_of_data

MOST_BITS = 16
# More rows than these are laid out all together.
FEW_ROWS = 1000


def bit_rows(field, units):
    """For each bit of the words that are 1 in a unit row the row, as a number, in which it alone is set."""
    return [words_as_number(field.multiple(unit, 1 << bit), field.bits)
            for unit in units for bit in range(field.bits - 1, -1, -1)]


def dot_weights(code, length):
    """For each number of bits how many right rows have so many bits set."""
    need_code(code)
    need_length(code, length)
    bits, many, start = code
    if (length - many) * bits > MOST_BITS:
        raise TooLarge(MOST_BITS)
    field = Field(bits)
    rows = bit_rows(field, unit_rows(field, many, start, length - many))
    return distance_counts(rows, length * bits, 0)


def distance_counts(rows, many, told):
    """For each number from 0 to so many bits, how many sums of rows are unlike the told bits at so many of them."""
    counts = counts_in(sliced_sum(tables_of(rows, many, told, (1 << many) - 1)), 1 << len(rows))
    return [counts.get(number, 0) for number in range(many + 1)]


def is_within(length, within):
    """Whether a value is a list or tuple of different indexes, ascending, of so many words."""
    if not is_row(within) or not all([is_number_to(index, 0, length - 1) for index in within]):
        return False
    return all([one < other for one, other in zip(within, within[1:])])


def lightest(code, length, *, within=None):
    """The least number of bits that are set in a right row within some places, and the first such row, not 0."""
    need_code(code)
    need_length(code, length)
    if within is not None and not is_within(length, within):
        raise NoNumber("within")
    bits, many, start = code
    places = list(range(length)) if within is None else list(within)
    if (len(places) - many) * bits > MOST_BITS:
        raise TooLarge(MOST_BITS)
    if len(places) <= many:
        return None
    field = Field(bits)
    rows = bit_rows(field, unit_rows_within(field, many, start, length, places))
    number, sums = lightest_sum(rows, len(places) * bits)
    row = [0] * length
    for place, word in zip(places, number_as_words(sums, len(places), bits)):
        row[place] = word
    return number, row


def lightest_sum(rows, many):
    """The least number of bits that are set in a sum of rows, not of none of them, and the first such sum."""
    slices = sliced_sum(tables_of(rows, many, 0, (1 << many) - 1))
    number, among = least_in(slices, every_index(rows) - 1)
    return number, sum_at(rows, first_index(among))


def first_index(table):
    """The first index of a table."""
    return (table & -table).bit_length() - 1


def sum_at(rows, index):
    """The sum of the rows that an index tells."""
    found = 0
    for place, row in enumerate(reversed(rows)):
        if index >> place & 1:
            found ^= row
    return found


def nearest_sums(rows, many, told, known):
    """The least number of known bits at which sums of rows are unlike the told ones, and the table of these sums."""
    return least_in(sliced_sum(tables_of(rows, many, told, known)), every_index(rows))


def need_dots_of_row(code, dots):
    """Refuse what is no list or tuple of the bits of a row, some of which may be lost."""
    bits = code[0]
    if not is_row(dots) or len(dots) % bits or not is_length(code, len(dots) // bits):
        raise NoWord("dots", -1)
    for at, dot in enumerate(dots):
        if dot is not None and not is_bit(dot):
            raise NoWord("dots", at)


def nearest_rows(code, dots):
    """The least number of dots at which a right row is unlike those that are not lost, and all such rows."""
    need_code(code)
    need_dots_of_row(code, dots)
    bits, many, start = code
    length = len(dots) // bits
    if (length - many) * bits > MOST_BITS:
        raise TooLarge(MOST_BITS)
    field = Field(bits)
    units = unit_rows(field, many, start, length - many)
    rows = bit_rows(field, units)
    told = as_number([dot or 0 for dot in dots])
    known = as_number([0 if dot is None else 1 for dot in dots])
    number, among = nearest_sums(rows, len(dots), told, known)
    indexes = places_set(among)
    if len(indexes) > FEW_ROWS:
        found = all_rows(field, units)
        return number, [found[index] for index in indexes]
    return number, [number_as_words(sum_at(rows, index), length, bits) for index in indexes]


def is_format(thing):
    """Whether a value is a format."""
    if not isinstance(thing, tuple) or len(thing) != 2:
        return False
    return is_number_to(thing[0], 0, LEVELS - 1) and is_number_to(thing[1], 0, MASKS - 1)


def need_format(part, thing):
    """Refuse what is no format."""
    if not is_format(thing):
        raise NoFormat(part)


def format_distance(one, other):
    """At how many format dots two formats are unlike."""
    return 2 * ones(word_of_format(one[0], one[1]) ^ word_of_format(other[0], other[1]))


def least_of_format(frame):
    """The least number of dots at which two symbols of one format differ, and the data words of two such symbols."""
    found = []
    for block in range(len(frame.places)):
        many = frame.own_bits[block] + frame.check_bits
        found.append(lightest_sum(frame.units(block), many))
    number, sums = min(found)
    block = found.index((number, sums))
    numbers = [sums if at == block else 0 for at in range(len(frame.places))]
    return number, frame.data_words([0 for _ in numbers]), frame.data_words(numbers)


def least_of_level(frame, one, other):
    """The least number of dots at which symbols of two masks differ, and the data words of two such symbols."""
    total = format_distance(one, other)
    numbers = []
    for block, (first, second) in enumerate(zip(frame.mask_numbers(one[1]), frame.mask_numbers(other[1]))):
        many = frame.own_bits[block] + frame.check_bits
        rows = frame.units(block)
        number, among = nearest_sums(rows, many, first ^ second, (1 << many) - 1)
        total += number
        numbers.append(sum_at(rows, first_index(among)))
    return total, frame.data_words([0 for _ in numbers]), frame.data_words(numbers)


def least_of_levels(size, one, other):
    """The least number of dots at which symbols of two levels differ, for a size of one block alone."""
    frames = (Frame(size, one[0]), Frame(size, other[0]))
    many = frames[0].own_bits[0] + frames[0].check_bits
    first = frames[0].units(0)
    rows = independent(first + frames[1].units(0))
    turned = frames[0].mask_numbers(one[1])[0] ^ frames[1].mask_numbers(other[1])[0]
    number, among = nearest_sums(rows, many, turned, (1 << many) - 1)
    index = first_index(among)
    # All units of the first one are independent, and stand ahead of those of the other one.
    behind = len(rows) - len(first)
    shares = (sum_at(first, index >> behind), sum_at(rows[len(first):], index & (1 << behind) - 1))
    return (number + format_distance(one, other), frames[0].data_words([shares[0]]), frames[1].data_words([shares[1]]))


def least_unlike(size, one, other):
    """The least number of dots at which two symbols of two formats differ, and the data words of two such symbols."""
    need_size(size)
    need_format("one", one)
    need_format("other", other)
    if one[0] != other[0]:
        if size != 1:
            raise TooLarge(MOST_BITS)
        return least_of_levels(size, one, other)
    frame = Frame(size, one[0])
    if max(frame.own_bits) > MOST_BITS:
        raise TooLarge(MOST_BITS)
    return least_of_format(frame) if one == other else least_of_level(frame, one, other)


def joined_counts(one, other):
    """For each number how many pairs there are whose numbers come to it, of the counts of both."""
    found = [0] * (len(one) + len(other) - 1)
    for number, count in enumerate(one):
        if count:
            for more, times in enumerate(other, start=number):
                found[more] += count * times
    return found


def unlike_counts(size, one, data, other):
    """For each number of dots how many symbols of the other format differ at so many from a symbol of the one."""
    need_size(size)
    need_format("one", one)
    level, mask = one
    if not is_row(data) or len(data) != data_count(size, level):
        raise NoWord("data", -1)
    need_words(WORD_BITS[size - 1], "data", data)
    need_format("other", other)
    frame = Frame(size, other[0])
    if max(frame.own_bits) > MOST_BITS:
        raise TooLarge(MOST_BITS)
    words = masked_words(size, other[1], masked_words(size, mask, words_of_data(size, level, data)))
    counts = [0] * format_distance(one, other) + [1]
    for block, number in enumerate(frame.numbers_of(words)):
        many = frame.own_bits[block] + frame.check_bits
        counts = joined_counts(counts, distance_counts(frame.units(block), many, number))
    return counts + [0] * (2 * STRIP - format_distance(one, other))
