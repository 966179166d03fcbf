"""What dots touch: the words and the format dots of a symbol, all in one number, a MARK.

Its lowest bits are the words, in the order in which they are dealt; those above are the format dots.
"""

from dotquilts.bitrows import ones
from dotquilts.formats import FORMAT_WORDS
from dotquilts.layouts import PATHS, PLACES
from dotquilts.paths import block_places
from dotquilts.sizes import CHECKS, STRIP, WORD_BITS

STAIN_KINDS = ("lost", "lying")


def mark_at(size, place):
    """The mark of the dot with a place in the layout of its size."""
    bits = WORD_BITS[size - 1]
    within = len(PATHS[size - 1])
    if place < within:
        return 1 << place // bits
    if place < within + 2 * STRIP:
        # As in the words of formats the first dot of a strip is the highest bit.
        return 1 << within // bits + within + 2 * STRIP - 1 - place
    return 0


def mark_of(size, dots):
    """The mark of some dots together."""
    places = PLACES[size - 1]
    found = 0
    for row, column in dots:
        found |= mark_at(size, places[row][column])
    return found


def grid_of_marks(size):
    """For each row of a symbol the list of the marks of its dots."""
    within = len(PATHS[size - 1])
    marks = [mark_at(size, place) for place in range(within + 2 * STRIP)] + [0, 0]
    return [[marks[place] for place in places] for places in PLACES[size - 1]]


def format_differences():
    """The list of all differences of two formats, in both strips; they are the same for each of the formats."""
    return [(word ^ FORMAT_WORDS[0]) << STRIP | word ^ FORMAT_WORDS[0] for word in FORMAT_WORDS[1:]]


class Harm:
    """What is harmful to symbols of a size and a level."""

    def __init__(self, size, level):
        self.words = len(PATHS[size - 1]) // WORD_BITS[size - 1]
        self.checks = CHECKS[size - 1][level]
        self.blocks = [sum([1 << index for index in places]) for places in block_places(size, level)]
        self.differences = format_differences()

    def hurt_block(self, lost, lying):
        """The first block of which too many words are touched, told by its mark; None if there is none."""
        others = lying & ~lost
        for block in self.blocks:
            if ones(lost & block) + 2 * ones(others & block) > self.checks:
                return block
        return None

    def unsure_format(self, lost, lying):
        """The first difference of formats that is not told for certain; None if there is none."""
        lost >>= self.words
        lying >>= self.words
        if lost == 0 and lying == 0:
            return None
        for told in self.differences:
            if ones(told & ~lost) <= 2 * ones(told & lying):
                return told
        return None

    def harms(self, lost, lying):
        """Whether a stain with these marks is harmful."""
        return self.hurt_block(lost, lying) is not None or self.unsure_format(lost, lying) is not None

    def harms_as(self, kind, mark):
        """Whether a set of dots with this mark is harmful, all of them lost, or all of them lying."""
        return self.harms(mark, 0) if kind == "lost" else self.harms(0, mark)
