"""The best pieces of texts, found from the back.

A RANK tells in one number how many bits a text needs from a place on, then the kind of its first piece there, then
the number of this piece's signs: so the least rank is that of the best piece. A COST is a rank that tells but the bits.
"""

from dotquilts.signs import (
    GROUPS, KINDS, MANY_BITS, MOST_SIGNS, NUMBER_BITS, bits_needed, lowest_kinds, sizes_of_pieces,
)

MANY_MASK = 31
KIND_MASK = 3
# So many bits of a rank tell the kind and the number of signs.
LOW_BITS = 7


def added_rank(kind, size, many):
    """What a piece with so many bits and signs adds to the cost behind it."""
    return size << LOW_BITS | kind << MANY_BITS | many


class Ranks:
    """The ranks of the best pieces of one kind, place by place, from the back of a text."""

    def __init__(self, kind, places):
        self.kind = kind
        self.group = GROUPS[kind]
        # What pieces of no more signs than a group has add, and what one more group does.
        self.short = [added_rank(kind, bits_needed(kind, many), many) for many in range(1, self.group + 1)]
        self.more = (NUMBER_BITS[kind][self.group] << LOW_BITS) + self.group
        # What pieces of all numbers of signs add, told only if it is asked for.
        self.every = []
        self.run = 0
        self.found = [0] * (places + 1)

    def of_all(self, at, costs):
        """The rank of the best piece at a place, looking at all of them."""
        if not self.every:
            sizes = sizes_of_pieces(self.kind)
            self.every = [added_rank(self.kind, size, many) for many, size in enumerate(sizes, start=1)]
        return min([cost + added for cost, added in zip(costs[at + 1:at + 1 + self.run], self.every)])

    def take(self, at, costs):
        """The rank of the best piece at a place, the next one ahead, where there is a sign of this kind.

        A piece with a whole group of signs more than another one has the bits of the group more. So all longer ones
        are told by the best one behind the group, unless this one is so long that no group can be added.
        """
        self.run += 1
        best = costs[at + 1] + self.short[0]
        for many, added in enumerate(self.short[1:self.run], start=2):
            if costs[at + many] + added < best:
                best = costs[at + many] + added
        if self.run > self.group:
            longer = self.found[at + self.group]
            if longer & MANY_MASK > MOST_SIGNS - self.group:
                best = self.of_all(at, costs)
            elif longer + self.more < best:
                best = longer + self.more
        self.found[at] = best
        return best

    def skip(self):
        """Go on behind a sign of another kind."""
        self.run = 0


def best_ranks(text):
    """For each place of a text, and its end, the rank of the first best piece."""
    first, second, third = [Ranks(kind, len(text)) for kind in KINDS]
    costs = [0] * (len(text) + 1)
    ranks = [0] * (len(text) + 1)
    for at, kind in reversed(list(enumerate(lowest_kinds(text)))):
        rank = third.take(at, costs)
        if kind > 2:
            second.skip()
        else:
            rank = min(rank, second.take(at, costs))
        if kind > 1:
            first.skip()
        else:
            rank = min(rank, first.take(at, costs))
        ranks[at] = rank
        costs[at] = rank >> LOW_BITS << LOW_BITS
    return ranks


def needed_bits(text):
    """For each place of a text, and its end, the fewest bits from there on."""
    return [rank >> LOW_BITS for rank in best_ranks(text)]


def pieces_of(text):
    """The first list of pieces with the fewest bits that come to a text."""
    ranks = best_ranks(text)
    found = []
    at = 0
    while at < len(text):
        many = ranks[at] & MANY_MASK
        found.append((ranks[at] >> MANY_BITS & KIND_MASK, text[at:at + many]))
        at += many
    return found
