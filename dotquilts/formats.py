"""Formats, a level and a mask each: their words, and which of them is nearest to the format dots of a grid."""

from dotquilts.bitrows import as_bits, ones
from dotquilts.checks import is_number_to
from dotquilts.errors import NoMask
from dotquilts.grids import need_grid
from dotquilts.layouts import STRIPS
from dotquilts.sizes import SIDES, STRIP, need_level, need_size

MASKS = 8
# The words of all formats, by level and mask: those of each level one behind the other.
FORMAT_WORDS = (
    709, 752, 666, 687, 590, 635, 529, 548, 979, 998, 908, 953, 856, 877, 775, 818, 220, 233, 131, 182, 87, 98, 8, 61,
    458, 511, 405, 416, 321, 372, 286, 299,
)
# Both strips, with no dot lost.
ALL_SEEN = 1048575


def need_mask(mask):
    """Refuse what is no mask."""
    if not is_number_to(mask, 0, MASKS - 1):
        raise NoMask(mask)


def word_of_format(level, mask):
    """The word of a format, as an integer."""
    return FORMAT_WORDS[MASKS * level + mask]


def format_word(level, mask):
    """The word of a format, as an integer."""
    need_level(level)
    need_mask(mask)
    return word_of_format(level, mask)


def strip_dots(size):
    """The dots of the first strip, then those of the second one."""
    many = SIDES[size - 1]
    return [divmod(at, many) for at in STRIPS[size - 1]]


def strip_shades(level, mask):
    """The list of the format dots of a format, strip by strip."""
    return as_bits(word_of_format(level, mask), STRIP) * 2


def format_dots(size, level, mask):
    """The dict from all format dots, ascending, to 0 or 1."""
    need_size(size)
    need_level(level)
    need_mask(mask)
    return {dot: bit for dot, bit in sorted(zip(strip_dots(size), strip_shades(level, mask)))}


def seen_strips(size, grid):
    """The format dots of a grid as two numbers: which of them are dark, and which are not lost."""
    many = SIDES[size - 1]
    dark = 0
    seen = 0
    for at in STRIPS[size - 1]:
        shade = grid[at // many][at % many]
        dark = dark << 1 | (shade or 0)
        seen = seen << 1 | (shade is not None)
    return dark, seen


def unlike_dots(dark, seen, word):
    """At how many of the format dots that are not lost a format's word is unlike them."""
    return ones((word << STRIP ^ word ^ dark) & seen)


def nearest_told(dark, seen):
    """The tuple of the level and the mask of the nearest format, and its unlike dots; None if several are."""
    word = dark >> STRIP
    if seen == ALL_SEEN and dark == word << STRIP | word and word in FORMAT_WORDS:
        level, mask = divmod(FORMAT_WORDS.index(word), MASKS)
        return level, mask, 0
    counts = [unlike_dots(dark, seen, other) for other in FORMAT_WORDS]
    least = min(counts)
    if counts.count(least) > 1:
        return None
    level, mask = divmod(counts.index(least), MASKS)
    return level, mask, least


def nearest_format(size, grid):
    """The tuple of the level and the mask of the nearest format, and its unlike dots; None if several are."""
    need_size(size)
    need_grid(size, grid)
    dark, seen = seen_strips(size, grid)
    return nearest_told(dark, seen)


def unlike_format(size, grid, level, mask):
    """At how many of the format dots of a grid that are not lost a format is unlike them."""
    need_size(size)
    need_grid(size, grid)
    need_level(level)
    need_mask(mask)
    dark, seen = seen_strips(size, grid)
    return unlike_dots(dark, seen, word_of_format(level, mask))
