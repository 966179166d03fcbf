"""Texts as pieces, stretches of signs of one kind, and the bits of these."""

from dotquilts.bitrows import as_bits
from dotquilts.checks import is_number_to, is_row
from dotquilts.errors import NoNumber, NoPieces, NoText

# A sign is worth its place here.
SIGNS = "0123456789ABCDEFGHIJKLMNOPQRSTUVWXYZ .,:-abcdefghijklmnopqrstuvwxyz!?'()/+*=;_#@&<>[]{}|~^$\n"

# These have an item for each kind from 1 on, and none that counts for 0.
KIND_SIGNS = (0, 10, 41, 92)
GROUPS = (1, 3, 2, 1)
# Behind the kind, each by the number of signs that are written as one number: its bits.
NUMBER_BITS = ((0, 0), (0, 4, 7, 10), (0, 6, 11), (0, 7))

KINDS = (1, 2, 3)
KIND_BITS = 2
MANY_BITS = 5
HEAD_BITS = KIND_BITS + MANY_BITS
MOST_SIGNS = 31
MOST_BITS = 4000


def need_text(text):
    """Refuse what is no text."""
    if not isinstance(text, str):
        raise NoText(-1)
    for at, sign in enumerate(text):
        if sign not in SIGNS:
            raise NoText(at)


def need_kind(kind):
    """Refuse what is no kind."""
    if not is_number_to(kind, 1, len(KINDS)):
        raise NoNumber("kind")


def is_piece(thing):
    """Whether a value is a piece."""
    if not isinstance(thing, tuple) or len(thing) != 2:
        return False
    kind, part = thing
    if not is_number_to(kind, 1, len(KINDS)) or not isinstance(part, str):
        return False
    if not 1 <= len(part) <= MOST_SIGNS:
        return False
    return all([0 <= SIGNS.find(sign) < KIND_SIGNS[kind] for sign in part])


def need_pieces(pieces):
    """Refuse what is no list or tuple of pieces."""
    if not is_row(pieces):
        raise NoPieces(-1)
    for at, piece in enumerate(pieces):
        if not is_piece(piece):
            raise NoPieces(at)


def bits_needed(kind, many):
    """How many bits a piece with so many signs has."""
    whole, left = divmod(many, GROUPS[kind])
    return HEAD_BITS + whole * NUMBER_BITS[kind][GROUPS[kind]] + NUMBER_BITS[kind][left]


def piece_bits(kind, many):
    """How many bits a piece of a kind with so many signs has."""
    need_kind(kind)
    if not is_number_to(many, 1, MOST_SIGNS):
        raise NoNumber("many")
    return bits_needed(kind, many)


def bits_of_piece(kind, part):
    """The list of the bits of one piece."""
    bits = as_bits(kind, KIND_BITS) + as_bits(len(part), MANY_BITS)
    for at in range(0, len(part), GROUPS[kind]):
        group = part[at:at + GROUPS[kind]]
        number = 0
        for sign in group:
            number = number * KIND_SIGNS[kind] + SIGNS.index(sign)
        bits.extend(as_bits(number, NUMBER_BITS[kind][len(group)]))
    return bits


def bits_of(pieces):
    """The list of the bits of pieces, one behind the other."""
    need_pieces(pieces)
    return [bit for kind, part in pieces for bit in bits_of_piece(kind, part)]


def stretches(text):
    """For each place of a text a list: for each kind how many signs from there on, 31 at most, are of it."""
    found = []
    runs = [0 for _ in KINDS]
    for sign in reversed(text):
        worth = SIGNS.index(sign)
        runs = [min(runs[kind - 1] + 1, MOST_SIGNS) if worth < KIND_SIGNS[kind] else 0 for kind in KINDS]
        found.append(runs)
    found.reverse()
    return found


def sizes_of_pieces(most):
    """For each kind the list of the bits of pieces with 1 to 31 signs, but not with more than so many."""
    return [[bits_needed(kind, many) for many in range(1, min(most, MOST_SIGNS) + 1)] for kind in KINDS]


def best_steps(text):
    """Two lists: for each place of a text, and its end, the fewest bits from there on, and the first best piece.

    From the back, so that each place finds what is best behind each piece that can begin there. A piece is
    told by its kind and its number of signs; it gives way to a later one only if this one saves bits.
    """
    sizes = sizes_of_pieces(len(text))
    runs = stretches(text)
    costs = [0] * (len(text) + 1)
    steps = [(0, 0)] * (len(text) + 1)
    for at in range(len(text) - 1, -1, -1):
        # No place needs more than a piece of kind 3 for its sign alone.
        least = bits_needed(3, 1) + costs[at + 1] + 1
        for kind, run in zip(KINDS, runs[at]):
            behind = costs[at + 1:at + run + 1]
            totals = [size + cost for size, cost in zip(sizes[kind - 1], behind)]
            if totals and min(totals) < least:
                least = min(totals)
                steps[at] = (kind, totals.index(least) + 1)
        costs[at] = least
    return costs, steps


def pieces_of(text):
    """The first list of pieces with the fewest bits that come to a text."""
    steps = best_steps(text)[1]
    found = []
    at = 0
    while at < len(text):
        kind, many = steps[at]
        found.append((kind, text[at:at + many]))
        at += many
    return found


def best_pieces(text):
    """The first list of pieces with the fewest bits that come to a text."""
    need_text(text)
    return pieces_of(text)


def fewest_bits(text):
    """How many bits the best pieces of a text have."""
    return best_steps(text)[0][0]


def least_bits(text):
    """How many bits the best pieces of a text have."""
    need_text(text)
    return fewest_bits(text)


def is_best(pieces):
    """Whether pieces have no more bits than their text needs."""
    need_pieces(pieces)
    bits = sum([bits_needed(kind, len(part)) for kind, part in pieces])
    return bits == fewest_bits("".join([part for _, part in pieces]))


def counted_ways(text):
    """For each number of bits, from 0 to the most that there are, how many lists of pieces come to a text.

    The counts of all lists from one place on stand side by side in one large integer, so that one shift makes
    all of them longer by a piece. Each count has a field of twice as many bits as the text has signs, and
    one: from n signs on there are fewer than 4 ** n lists, as behind each sign there is a new piece or none.
    """
    sizes = sizes_of_pieces(len(text))
    field = 2 * len(text) + 1
    behind = [0] * len(text) + [1]
    for at, runs in reversed(list(enumerate(stretches(text)))):
        total = 0
        for row, run in zip(sizes, runs):
            for many in range(1, run + 1):
                total += behind[at + many] << field * row[many - 1]
        behind[at] = total
    fields = bits_needed(3, 1) * len(text) + 1
    mask = (1 << field) - 1
    return [behind[0] >> field * bits & mask for bits in range(fields)]


def ways(text, bits):
    """How many lists of pieces come to a text and have just so many bits."""
    need_text(text)
    if not is_number_to(bits, 0, MOST_BITS):
        raise NoNumber("bits")
    counts = counted_ways(text)
    return counts[bits] if bits < len(counts) else 0
