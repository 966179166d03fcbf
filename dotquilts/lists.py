"""Counting the lists of pieces that come to a text, by their bits.

The counts of all numbers of bits stand side by side in one large integer, each in a FIELD of so many bits: so one
shift makes all lists longer by a piece. Each sign needs some bits, whatever piece it is in; these are not counted.
"""

from dotquilts.signs import GROUPS, KINDS, LEAST_SIGN_BITS, MOST_SIGNS, NUMBER_BITS, bits_needed, lowest_kinds

SIGN_BITS = 4


def field_bits(lowest):
    """How many bits no count needs more of, told by the lowest kinds of all signs; so many as whole digits have.

    Before each sign a piece of one of its kinds begins, or goes on.
    """
    most = 1
    for kind in lowest:
        most *= len(KINDS) + 2 - kind
    return (most.bit_length() + SIGN_BITS - 1) // SIGN_BITS * SIGN_BITS


class Begun:
    """The counts of the lists that begin with a piece of one kind, place by place, from the back of a text."""

    def __init__(self, kind, field, places):
        self.group = GROUPS[kind]
        self.shifts = [field * (bits_needed(kind, many) - LEAST_SIGN_BITS * many) for many in range(1, MOST_SIGNS + 1)]
        self.more = field * (NUMBER_BITS[kind][self.group] - LEAST_SIGN_BITS * self.group)
        self.run = 0
        self.found = [0] * (places + 1)

    def take(self, at, counts):
        """The counts at a place, the next one ahead, where there is a sign of this kind.

        The first piece has no more signs than a group, or it is a group longer than one that begins behind this
        group; but of these those that would become too long are left out.
        """
        self.run += 1
        total = 0
        for many in range(1, min(self.run, self.group) + 1):
            total += counts[at + many] << self.shifts[many - 1]
        if self.run > self.group:
            begin = at + self.group
            longer = self.found[begin]
            for many in range(MOST_SIGNS - self.group + 1, min(self.run - self.group, MOST_SIGNS) + 1):
                longer -= counts[begin + many] << self.shifts[many - 1]
            total += longer << self.more
        self.found[at] = total
        return total

    def skip(self):
        """Go on behind a sign of another kind."""
        self.run = 0


def all_counts(text):
    """The tuple of the counts of all lists of pieces that come to a text, and of the bits of their fields."""
    lowest = lowest_kinds(text)
    field = field_bits(lowest)
    kinds = [Begun(kind, field, len(text)) for kind in KINDS]
    counts = [0] * len(text) + [1]
    for at, low in reversed(list(enumerate(lowest))):
        for begun in kinds[:low - 1]:
            begun.skip()
        counts[at] = sum([begun.take(at, counts) for begun in kinds[low - 1:]])
    return counts[0], field


def ways_with(text, bits):
    """How many lists of pieces come to a text and have just so many bits."""
    counts, field = all_counts(text)
    counted = bits - LEAST_SIGN_BITS * len(text)
    return counts >> field * counted & (1 << field) - 1 if counted >= 0 else 0


def counted_ways(text):
    """For each number of bits, from 0 to the most that there are, how many lists of pieces come to a text."""
    counts, field = all_counts(text)
    digits = field // SIGN_BITS
    signs = f"{counts:x}"
    found = [int(signs[max(end - digits, 0):end], 16) for end in range(len(signs), 0, -digits)]
    return [0] * (LEAST_SIGN_BITS * len(text)) + found
