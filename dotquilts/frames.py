"""Where the dots of a symbol stand in its blocks.

A block is one large integer, its first word being the highest. What stands in it are sums of data bits: a block in
which one data bit alone is set is a UNIT, and all blocks are sums of units.
"""

from dotquilts.bitrows import number_as_words, words_as_bits, words_as_number
from dotquilts.blocks import own_counts, shares_of
from dotquilts.layouts import PATHS, PLACES
from dotquilts.maskings import MASK_WORDS
from dotquilts.paths import block_places, dealt_words
from dotquilts.sizes import CHECKS, SIDES, WORD_BITS


class Frame:
    """The blocks of all symbols of a size and a level."""

    def __init__(self, size, level):
        self.size = size
        self.level = level
        self.bits = WORD_BITS[size - 1]
        self.places = block_places(size, level)
        self.own_bits = [self.bits * own for own in own_counts(size, level)]
        self.check_bits = self.bits * CHECKS[size - 1][level]
        self.spots = {index: (block, self.bits * (len(places) - at))
                      for block, places in enumerate(self.places) for at, index in enumerate(places)}

    def bit_of(self, dot):
        """The tuple of the block of a word dot and its bit there, as a number; None for other dots."""
        place = PLACES[self.size - 1][dot[0]][dot[1]]
        if place >= len(PATHS[self.size - 1]):
            return None
        index, step = divmod(place, self.bits)
        block, end = self.spots[index]
        return block, 1 << end - 1 - step

    def dot_of(self, block, place):
        """The dot of the bit at a place of a block, the lowest bit being at 0."""
        behind, low = divmod(place, self.bits)
        index = self.places[block][len(self.places[block]) - 1 - behind]
        return divmod(PATHS[self.size - 1][(index + 1) * self.bits - 1 - low], SIDES[self.size - 1])

    def numbers_of(self, words):
        """The list of the blocks, as numbers, of the dealt words of a symbol."""
        return [words_as_number([words[index] for index in places], self.bits) for places in self.places]

    def path_bits(self, numbers):
        """The list of the bits on the path, of the blocks as numbers."""
        blocks = [number_as_words(number, len(places), self.bits) for number, places in zip(numbers, self.places)]
        return words_as_bits(dealt_words(self.size, self.level, blocks), self.bits)

    def mask_numbers(self, mask):
        """The list of what a mask turns in each block, as numbers."""
        return self.numbers_of(MASK_WORDS[self.size - 1][mask])

    def bits_of(self, dots):
        """The list of the bits of some dots in each block, as numbers; dots that are no word dots are passed by."""
        found = [0] * len(self.places)
        for dot in dots:
            spot = self.bit_of(dot)
            if spot is not None:
                found[spot[0]] |= spot[1]
        return found

    def units(self, block):
        """The list of the units of a block, that of its first data bit first."""
        own = self.own_bits[block]
        shares = shares_of(self.size, self.level, own // self.bits)
        high = self.check_bits + own - 1
        return [1 << high - at | share for at, share in enumerate(shares)]

    def data_mask(self, block):
        """All data bits of a block, as a number."""
        return (1 << self.own_bits[block]) - 1 << self.check_bits

    def data_index(self, block, place):
        """The index of the data bit at a place of a block among all data bits."""
        return sum(self.own_bits[:block]) + self.check_bits + self.own_bits[block] - 1 - place

    def data_words(self, numbers):
        """The list of all data words, of the blocks as numbers."""
        return [word for number, own in zip(numbers, self.own_bits)
                for word in number_as_words(number >> self.check_bits, own // self.bits, self.bits)]
