"""Wishes for dots, with a pattern for data bits: which symbols have them, or why none has."""

from dotquilts.bitrows import ones, places_set
from dotquilts.formats import word_of_format
from dotquilts.frames import Frame
from dotquilts.layouts import PATHS, PLACES
from dotquilts.sizes import STRIP
from dotquilts.spans import Span


def fixed_value(size, level, mask, dot):
    """What a border or format dot is in all symbols of a format."""
    step = PLACES[size - 1][dot[0]][dot[1]] - len(PATHS[size - 1])
    if step >= 2 * STRIP:
        return step - 2 * STRIP
    return word_of_format(level, mask) >> STRIP - 1 - step % STRIP & 1


class Wish:
    """A wish and a pattern, for all masks.

    Of each block there are the bits that are asked for, those of them that are wished to be dark, the data bits that
    the pattern tells, and those of them that it tells to be 1; then the span of the data bits that are left free, in
    which the check bits that are asked for are taken one by one. Those that are LOOSE could not be taken: what they
    are hangs on the others.
    """

    def __init__(self, size, level, wish, pattern):
        self.size = size
        self.level = level
        self.frame = Frame(size, level)
        self.fixed = [dot for dot in sorted(wish) if self.frame.bit_of(dot) is None]
        self.wish = wish
        self.asked = self.frame.bits_of(wish)
        self.dark = self.frame.bits_of([dot for dot in wish if wish[dot]])
        self.known, self.told = self.pattern_bits(pattern)
        self.bases = [self.frame.units(block) for block in range(len(self.asked))]
        self.spans = []
        self.loose = []
        for block in range(len(self.asked)):
            self.open_block(block)

    def pattern_bits(self, pattern):
        """For each block the data bits that a pattern tells, and those of them that are 1, as numbers."""
        known, told, at = [], [], 0
        for own in self.frame.own_bits:
            part = list(pattern[at:at + own])
            part = part + [None] * (own - len(part))
            known.append(int("".join(["0" if bit is None else "1" for bit in part]), 2) << self.frame.check_bits)
            told.append(int("".join(["1" if bit else "0" for bit in part]), 2) << self.frame.check_bits)
            at += own
        return known, told

    def open_block(self, block):
        """Lay out the span of a block."""
        fixed = self.asked[block] | self.known[block]
        data = self.frame.data_mask(block)
        span = Span([unit for unit in self.bases[block] if not unit & data & fixed])
        loose = 0
        for place in places_set(self.asked[block] & ~data):
            if not span.take(1 << place):
                loose |= 1 << place
        self.spans.append(span)
        self.loose.append(loose)

    def wrong_dot(self, mask):
        """The first wished border or format dot that is another one in all symbols; None if there is none."""
        for dot in self.fixed:
            if fixed_value(self.size, self.level, mask, dot) != self.wish[dot]:
                return dot
        return None

    def settled(self, block, turned):
        """The tuple of a block, as a number, that is as near to the wish as can be, and its bits that are not so.

        The wish is for the block with the turned bits that a mask makes of it.
        """
        data = self.frame.data_mask(block)
        wanted = (self.dark[block] ^ turned) & self.asked[block]
        values = wanted | self.told[block]
        found = 0
        for unit in self.bases[block]:
            if unit & data & values:
                found ^= unit
        for bit, lead in self.spans[block].leads:
            if (found ^ values) & bit:
                found ^= lead
        unlike = (wanted ^ self.told[block]) & self.asked[block] & self.known[block]
        return found, unlike | (found ^ values) & self.loose[block]

    def tied(self, block, bit):
        """The tuple of the dots and of the data bits told by the pattern, both ascending, that tie a bit.

        The bit is a data bit that is both asked for and told, or a loose check bit. The check bits that tie it leave
        some data bits, all of them asked for or told.
        """
        data = self.frame.data_mask(block)
        if bit & data:
            place = bit.bit_length() - 1
            return [self.frame.dot_of(block, place)], [self.frame.data_index(block, place)]
        found = self.spans[block].tie(bit)
        for unit in self.bases[block]:
            if ones(unit & ~data & found) & 1:
                found |= unit & data
        dots = [self.frame.dot_of(block, place) for place in places_set(found & self.asked[block])]
        told = places_set(found & data & ~self.asked[block])
        return sorted(dots), sorted([self.frame.data_index(block, place) for place in told])

    def answer(self, mask):
        """What drawing tells under a mask."""
        dot = self.wrong_dot(mask)
        if dot is not None:
            return "clash", [dot], []
        numbers = []
        for block, turned in enumerate(self.frame.mask_numbers(mask)):
            number, wrong = self.settled(block, turned)
            if wrong:
                dots, indexes = self.tied(block, 1 << wrong.bit_length() - 1)
                return "clash", dots, indexes
            numbers.append(number)
        return "data", self.frame.data_words(numbers)

    def ways(self):
        """How many symbols draw what can be drawn."""
        return 1 << sum([len(span.rows) for span in self.spans])

    def open_bits(self):
        """The list of the bits on the path that are not the same in all symbols that draw what can be drawn."""
        return self.frame.path_bits([span.reach() for span in self.spans])
