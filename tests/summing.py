"""What the tests reckon of dots as sums of data bits by themselves, from points 44 to 47, without the package."""

from functools import lru_cache

from tests import drawing, walking
from tests.walking import BITS, DATA_BITS


def words_of_bits(size, bits):
    return [int("".join(map(str, bits[at:at + BITS[size]])), 2) for at in range(0, len(bits), BITS[size])]


def bits_of_words(size, words):
    return [int(bit) for word in words for bit in format(word, "b").zfill(BITS[size])]


@lru_cache(None)
def vectors(size, level):
    """The dict from all dots to the numbers of the data bits whose sum they are; the first data bit is the lowest."""
    many = DATA_BITS[size][level]
    found = dict.fromkeys(walking.all_dots(size), 0)
    plain = drawing.symbol_of(size, level, 0, words_of_bits(size, [0] * many))
    for at in range(many):
        bits = [0] * many
        bits[at] = 1
        grid = drawing.symbol_of(size, level, 0, words_of_bits(size, bits))
        for row, dots in enumerate(grid):
            if dots != plain[row]:
                for column, dot in enumerate(dots):
                    if dot != plain[row][column]:
                        found[row, column] |= 1 << at
    return found


@lru_cache(None)
def plain_symbol(size, level, mask):
    """The symbol of the data words 0."""
    return drawing.symbol_of(size, level, mask, [0] * drawing.data_count(size, level))


class Sums:
    """Sums of data bits that are told, each with its value, in the lowest place."""

    def __init__(self):
        self.leads = {}

    def rest(self, number):
        while number > 1:
            lead = number.bit_length()
            if lead not in self.leads:
                return number
            number ^= self.leads[lead]
        return number

    def add(self, vector, value):
        """Whether it can be so."""
        rest = self.rest(vector << 1 | value)
        if rest > 1:
            self.leads[rest.bit_length()] = rest
        return rest != 1

    def value(self, vector):
        """The value of a sum that is told; None if it is open."""
        rest = self.rest(vector << 1)
        return rest if rest < 2 else None


def told_sums(size, level, mask, wish, pattern):
    """The sums that a wish and a pattern tell; None if they clash."""
    sums = Sums()
    plain = plain_symbol(size, level, mask)
    for at, bit in enumerate(pattern):
        if bit is not None and not sums.add(1 << at, bit):
            return None
    for (row, column), value in wish.items():
        if not sums.add(vectors(size, level)[row, column], value ^ plain[row][column]):
            return None
    return sums


def ways(size, level, mask, wish, pattern):
    sums = told_sums(size, level, mask, wish, pattern)
    return 0 if sums is None else 2 ** (DATA_BITS[size][level] - len(sums.leads))


def sure_dots(size, level, mask, wish, pattern):
    sums = told_sums(size, level, mask, wish, pattern)
    if sums is None:
        return None
    plain = plain_symbol(size, level, mask)
    found = {}
    for dot in walking.all_dots(size):
        value = sums.value(vectors(size, level)[dot])
        if value is not None:
            found[dot] = value ^ plain[dot[0]][dot[1]]
    return found


def free_dots(size, level, dots):
    sums = Sums()
    found = []
    for dot in dots:
        vector = vectors(size, level)[dot]
        if sums.value(vector) is None:
            sums.add(vector, 0)
            found.append(dot)
    return found
