"""Rows of bits as texts: reading them, and counting those that can be read."""

from dotquilts.bitrows import as_number
from dotquilts.checks import is_bit, is_number_to, is_row
from dotquilts.errors import NoBits, NoNumber, Unread
from dotquilts.lists import counted_ways
from dotquilts.pieces import need_text
from dotquilts.signs import GROUPS, HEAD_BITS, KIND_BITS, KIND_SIGNS, NUMBER_BITS, SIGNS, bits_needed

MOST_COUNTED = 1000
# How many texts there are of ten groups of three digits, of fifteen pairs of signs of kind 2, of 31 signs of kind 3.
TEN_GROUPS = 10 ** 30
FIFTEEN_PAIRS = 41 ** 30
MOST_SMALL = 92 ** 31


def need_bits(bits):
    """Refuse what is no list or tuple of bits."""
    if not is_row(bits):
        raise NoBits(-1)
    for at, bit in enumerate(bits):
        if not is_bit(bit):
            raise NoBits(at)


def need_many(many):
    """Refuse what is no number of bits whose rows are counted."""
    if not is_number_to(many, 0, MOST_COUNTED):
        raise NoNumber("many")


def signs_of(kind, many, number):
    """So many signs that are written as one number; None if the number is too great."""
    signs = ""
    for _ in range(many):
        number, worth = divmod(number, KIND_SIGNS[kind])
        signs = SIGNS[worth] + signs
    return signs if number == 0 else None


def part_of_body(kind, many, body):
    """The text that the bits behind the head of a piece are; None if a number is too great."""
    signs = []
    at = 0
    while many > 0:
        group = min(many, GROUPS[kind])
        bits = NUMBER_BITS[kind][group]
        signs.append(signs_of(kind, group, as_number(body[at:at + bits])))
        at += bits
        many -= group
    return None if None in signs else "".join(signs)


def piece_at(bits, at):
    """The piece that begins at a place of a row of bits."""
    body = at + HEAD_BITS
    if len(bits) < body:
        raise Unread(at, "short")
    kind = as_number(bits[at:at + KIND_BITS])
    many = as_number(bits[at + KIND_BITS:body])
    if many == 0:
        raise Unread(at, "count")
    end = at + bits_needed(kind, many)
    if len(bits) < end:
        raise Unread(at, "short")
    part = part_of_body(kind, many, bits[body:end])
    if part is None:
        raise Unread(at, "value")
    return kind, part


def text_read(bits):
    """The tuple of the text that bits are read to, its pieces, and how many bits belong to these and the end."""
    pieces = []
    at = 0
    while len(bits) - at >= KIND_BITS:
        if not any(bits[at:at + KIND_BITS]):
            at += KIND_BITS
            break
        kind, part = piece_at(bits, at)
        pieces.append((kind, part))
        at += bits_needed(kind, len(part))
    return "".join([piece[1] for piece in pieces]), pieces, at


def text_of(bits):
    """The tuple of the text that bits are read to, its pieces, and how many bits belong to these and the end."""
    need_bits(bits)
    return text_read(bits)


def ended_rows(left):
    """How many rows of so many bits there are that have no more pieces."""
    return 1 << left - KIND_BITS if left >= KIND_BITS else 1 << left


def readable_rows(many):
    """How many of all rows of so many bits can be read.

    Row by row of more bits: a row begins with a piece, and goes on with a row that can be read. The signs of a piece
    are groups that follow one another, the last of them perhaps a smaller one. So what is behind some groups more is
    told by what is behind some groups less; what is then behind too many groups is taken off.
    """
    # Each list begins with as many zeros as it is looked back at most: it is looked up by the bits of that.
    rows = [0] * 217
    digits, more_digits = [0] * 17, [0] * 11
    capitals, more_capitals = [0] * 18, [0] * 13
    signs = [0] * 14
    for left in range(many + 1):
        begun = 10 * (more_digits[left] + 10 * (digits[left + 3] + 10 * digits[left]))
        begun += 41 * (more_capitals[left] + 41 * capitals[left]) + 92 * signs[left]
        row = begun + (1 << left - KIND_BITS if left >= KIND_BITS else 1 << left)
        # Behind ten, and behind nine groups of digits at most; then fifteen and fourteen pairs, and thirty signs.
        behind = row + 1000 * digits[left + 7]
        more_digits.append(behind)
        digits.append(behind - TEN_GROUPS * rows[left + 117])
        behind = row + 1681 * capitals[left + 7]
        more_capitals.append(behind)
        capitals.append(behind - FIFTEEN_PAIRS * rows[left + 52])
        signs.append(row + 92 * signs[left + 7] - MOST_SMALL * rows[left])
        rows.append(row)
    return rows[-1]


def readable(many):
    """How many of all rows of so many bits can be read."""
    need_many(many)
    return readable_rows(many)


def rows_of(text, many):
    """How many of all rows of so many bits are read to a text."""
    need_text(text)
    need_many(many)
    counts = counted_ways(text)[:many + 1]
    return sum([lists * ended_rows(many - bits) for bits, lists in enumerate(counts)])
