"""Formats, a level and a mask each: their words, and which of them is nearest to the format dots of a grid."""

from dotquilts.bitrows import as_bits, ones
from dotquilts.checks import is_number_to
from dotquilts.errors import NoMask
from dotquilts.grids import need_grid
from dotquilts.sizes import LEVELS, STRIP, need_level, need_size, strips

MASKS = 8
CHECK_BITS = 5
DIVISOR = 53
TURNED = 709


def need_mask(mask):
    """Refuse what is no mask."""
    if not is_number_to(mask, 0, MASKS - 1):
        raise NoMask(mask)


def word_of_format(level, mask):
    """The word of a format, as an integer."""
    told = MASKS * level + mask
    rest = told
    for _ in range(CHECK_BITS):
        # A bit is a coefficient here: one that goes beyond the remainder takes the divisor off.
        rest *= 2
        if rest >> CHECK_BITS:
            rest ^= DIVISOR
    return (told << CHECK_BITS | rest) ^ TURNED


def format_word(level, mask):
    """The word of a format, as an integer."""
    need_level(level)
    need_mask(mask)
    return word_of_format(level, mask)


def strip_dots(size):
    """The dots of the first strip, then those of the second one."""
    first, second = strips(size)
    return first + second


def shades_of_format(size, level, mask):
    """The list of tuples of each format dot, strip by strip, and 0 or 1."""
    return list(zip(strip_dots(size), as_bits(word_of_format(level, mask), STRIP) * 2))


def format_dots(size, level, mask):
    """The dict from all format dots, ascending, to 0 or 1."""
    need_size(size)
    need_level(level)
    need_mask(mask)
    return {dot: bit for dot, bit in sorted(shades_of_format(size, level, mask))}


def seen_strips(size, grid):
    """The format dots of a grid as two numbers: which of them are dark, and which are not lost."""
    dark = 0
    seen = 0
    for row, column in strip_dots(size):
        shade = grid[row][column]
        dark = 2 * dark + (0 if shade is None else shade)
        seen = 2 * seen + (0 if shade is None else 1)
    return dark, seen


def unlike_dots(dark, seen, level, mask):
    """At how many of the format dots that are not lost a format is unlike them."""
    word = word_of_format(level, mask)
    return ones((word << STRIP ^ word ^ dark) & seen)


def nearest_of(size, grid):
    """The tuple of the level and the mask of the nearest format, and its unlike dots; None if several are."""
    dark, seen = seen_strips(size, grid)
    counts = [unlike_dots(dark, seen, told // MASKS, told % MASKS) for told in range(LEVELS * MASKS)]
    least = min(counts)
    if counts.count(least) > 1:
        return None
    level, mask = divmod(counts.index(least), MASKS)
    return level, mask, least


def nearest_format(size, grid):
    """The tuple of the level and the mask of the nearest format, and its unlike dots; None if several are."""
    need_size(size)
    need_grid(size, grid)
    return nearest_of(size, grid)


def unlike_format(size, grid, level, mask):
    """At how many of the format dots of a grid that are not lost a format is unlike them."""
    need_size(size)
    need_grid(size, grid)
    need_level(level)
    need_mask(mask)
    dark, seen = seen_strips(size, grid)
    return unlike_dots(dark, seen, level, mask)
