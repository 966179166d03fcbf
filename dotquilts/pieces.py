"""Texts as pieces, stretches of signs of one kind, and the bits of these."""

from dotquilts.bitrows import as_bits
from dotquilts.checks import is_number_to, is_row
from dotquilts.errors import NoNumber, NoPieces, NoText
from dotquilts.lists import ways_with
from dotquilts.ranks import needed_bits, pieces_of
from dotquilts.signs import GROUPS, KIND_BITS, KIND_SIGNS, KINDS, MANY_BITS, MOST_SIGNS, NUMBER_BITS, SIGNS, bits_needed

MOST_BITS = 4000


def need_text(text):
    """Refuse what is no text."""
    if not isinstance(text, str):
        raise NoText(-1)
    for at, sign in enumerate(text):
        if sign not in SIGNS:
            raise NoText(at)


def need_kind(kind):
    """Refuse what is no kind."""
    if not is_number_to(kind, 1, len(KINDS)):
        raise NoNumber("kind")


def is_piece(thing):
    """Whether a value is a piece."""
    if not isinstance(thing, tuple) or len(thing) != 2:
        return False
    kind, part = thing
    if not is_number_to(kind, 1, len(KINDS)) or not isinstance(part, str):
        return False
    if not 1 <= len(part) <= MOST_SIGNS:
        return False
    return all([0 <= SIGNS.find(sign) < KIND_SIGNS[kind] for sign in part])


def need_pieces(pieces):
    """Refuse what is no list or tuple of pieces."""
    if not is_row(pieces):
        raise NoPieces(-1)
    for at, piece in enumerate(pieces):
        if not is_piece(piece):
            raise NoPieces(at)


def piece_bits(kind, many):
    """How many bits a piece of a kind with so many signs has."""
    need_kind(kind)
    if not is_number_to(many, 1, MOST_SIGNS):
        raise NoNumber("many")
    return bits_needed(kind, many)


def bits_of_piece(kind, part):
    """The list of the bits of one piece."""
    bits = as_bits(kind, KIND_BITS) + as_bits(len(part), MANY_BITS)
    for at in range(0, len(part), GROUPS[kind]):
        group = part[at:at + GROUPS[kind]]
        number = 0
        for sign in group:
            number = number * KIND_SIGNS[kind] + SIGNS.index(sign)
        bits.extend(as_bits(number, NUMBER_BITS[kind][len(group)]))
    return bits


def bits_of(pieces):
    """The list of the bits of pieces, one behind the other."""
    need_pieces(pieces)
    return [bit for kind, part in pieces for bit in bits_of_piece(kind, part)]


def bits_of_text(text):
    """The list of the bits of the best pieces of a text."""
    return [bit for kind, part in pieces_of(text) for bit in bits_of_piece(kind, part)]


def best_pieces(text):
    """The first list of pieces with the fewest bits that come to a text."""
    need_text(text)
    return pieces_of(text)


def fewest_bits(text):
    """How many bits the best pieces of a text have."""
    return needed_bits(text)[0]


def least_bits(text):
    """How many bits the best pieces of a text have."""
    need_text(text)
    return fewest_bits(text)


def is_best(pieces):
    """Whether pieces have no more bits than their text needs."""
    need_pieces(pieces)
    bits = sum([bits_needed(kind, len(part)) for kind, part in pieces])
    return bits == fewest_bits("".join([part for _, part in pieces]))


def ways(text, bits):
    """How many lists of pieces come to a text and have just so many bits."""
    need_text(text)
    if not is_number_to(bits, 0, MOST_BITS):
        raise NoNumber("bits")
    return ways_with(text, bits)
