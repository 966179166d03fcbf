"""Symbols: drawing them for data words and for texts, and reading them back."""

from dotquilts.bitrows import as_bits, bits_as_words, words_as_bits
from dotquilts.blocks import right_block, right_blocks
from dotquilts.checks import is_row
from dotquilts.errors import NoWord, TooLarge, Unmended, Unread
from dotquilts.fields import need_words
from dotquilts.fitting import filled_row, least_size
from dotquilts.formats import need_mask, nearest_told, seen_strips, strip_dots, strip_shades
from dotquilts.grids import need_any_grid
from dotquilts.layouts import PATHS
from dotquilts.maskings import MASK_WORDS
from dotquilts.masks import drawn_grid, mask_chosen, masked_words
from dotquilts.paths import dealt_words, gathered_words, words_on
from dotquilts.pieces import need_text
from dotquilts.reading import text_read
from dotquilts.sizes import CHECKS, SIDES, WORD_BITS, data_count, is_on_border, need_level, need_size

MOST_FILLED = 6


def need_data(size, level, data):
    """Refuse what is no list or tuple of all data words of a symbol."""
    if not is_row(data) or len(data) != data_count(size, level):
        raise NoWord("data", -1)
    need_words(WORD_BITS[size - 1], "data", data)


def words_of_data(size, level, data):
    """The dealt words of the symbol with these data words."""
    return dealt_words(size, level, right_blocks(size, level, data))


def symbol_of(size, level, mask, data):
    """The grid of the symbol with these data words."""
    need_size(size)
    need_level(level)
    need_mask(mask)
    need_data(size, level, data)
    return drawn_grid(size, level, mask, words_of_data(size, level, data))


def symbol(text, *, size=None, level=0, mask=None):
    """The grid of the symbol with a text, of the least size and with the best mask unless these are told."""
    need_text(text)
    if size is not None:
        need_size(size)
    need_level(level)
    if mask is not None:
        need_mask(mask)
    if size is None:
        # A text that no size has room for lacks bits as for the greatest one.
        size = least_size(text, level) or len(SIDES)
    data = bits_as_words(filled_row(text, size, level), WORD_BITS[size - 1])
    words = words_of_data(size, level, data)
    if mask is None:
        mask = mask_chosen(size, level, words)
    return drawn_grid(size, level, mask, words)


def repaired_blocks(size, level, words):
    """The list of the repaired blocks of the dealt words of a symbol, some of which are lost or lie."""
    blocks = []
    for block, row in enumerate(gathered_words(size, level, words)):
        told = right_block(size, level, row)
        if told is None:
            raise Unmended("block", block)
        blocks.append(told)
    return blocks


def symbol_told(size, grid):
    """The tuple of the level, the mask, the words without the mask, and the repaired blocks that a grid tells."""
    dark, seen = seen_strips(size, grid)
    nearest = nearest_told(dark, seen)
    if nearest is None:
        raise Unmended("format", -1)
    level, mask, _ = nearest
    words = masked_words(size, mask, words_on(size, grid))
    return level, mask, words, repaired_blocks(size, level, words)


def data_of(size, level, blocks):
    """The list of the data words of blocks."""
    checks = CHECKS[size - 1][level]
    return [word for block in blocks for word in block[:len(block) - checks]]


def wrong_in_words(size, grid, mask, words, right):
    """The list of the word dots of a grid that are not as the right words have them."""
    bits = WORD_BITS[size - 1]
    many = SIDES[size - 1]
    found = []
    for index, (word, wanted) in enumerate(zip(words, right)):
        if word != wanted:
            shades = as_bits(wanted ^ MASK_WORDS[size - 1][mask][index], bits)
            for at, shade in zip(PATHS[size - 1][index * bits:(index + 1) * bits], shades):
                if grid[at // many][at % many] != shade:
                    found.append((at // many, at % many))
    return found


def wrong_in_strips(size, grid, level, mask):
    """The list of the format dots of a grid that are not as a format has them."""
    told = zip(strip_dots(size), strip_shades(level, mask))
    return [(row, column) for (row, column), shade in told if grid[row][column] != shade]


def words_read(size, grid):
    """What read_words tells of a grid, but for the size."""
    level, mask, words, blocks = symbol_told(size, grid)
    wrong = wrong_in_words(size, grid, mask, words, dealt_words(size, level, blocks))
    wrong = sorted(wrong + wrong_in_strips(size, grid, level, mask))
    return level, mask, data_of(size, level, blocks), wrong


def words_told(size, grid):
    """The tuple of the level, the mask and the list of the data words that a grid tells; None if it is refused."""
    try:
        level, mask, _, blocks = symbol_told(size, grid)
        return level, mask, data_of(size, level, blocks)
    except Unmended:
        return None


def text_of_data(size, data):
    """The text that data words are read to."""
    return text_read(words_as_bits(data, WORD_BITS[size - 1]))[0]


def read_words(grid):
    """The tuple of size, level, mask, data words, and the dots that are lost or lie."""
    size = need_any_grid(grid)
    level, mask, data, wrong = words_read(size, grid)
    return size, level, mask, data, wrong


def read(grid):
    """The tuple of text, size, level, mask, and the dots that are lost or lie."""
    size = need_any_grid(grid)
    level, mask, data, wrong = words_read(size, grid)
    return text_of_data(size, data), size, level, mask, wrong


def text_told(size, grid):
    """The text that a grid is read to, None if it is refused."""
    told = words_told(size, grid)
    if told is None:
        return None
    try:
        return text_of_data(size, told[2])
    except Unread:
        return None


def filled(grid, dots, number):
    """The grid, of lists, with the bits of a number at some dots."""
    found = [list(shades) for shades in grid]
    for place, (row, column) in enumerate(dots):
        found[row][column] = number >> place & 1
    return found


def fillings(grid):
    """The list of tuples of each text, or None, and how many ways to fill the lost dots are read to it."""
    size = need_any_grid(grid)
    last = SIDES[size - 1] - 1
    lost = [(row, column) for row, dots in enumerate(grid) for column, dot in enumerate(dots) if dot is None]
    if len(lost) > MOST_FILLED:
        raise TooLarge(MOST_FILLED)
    # Border dots change no answer: whatever they are filled with, it is told once more.
    within = [dot for dot in lost if not is_on_border(last, dot[0], dot[1])]
    times = 1 << len(lost) - len(within)
    counts = {}
    for number in range(1 << len(within)):
        text = text_told(size, filled(grid, within, number))
        counts[text] = counts.get(text, 0) + times
    refused = [(None, counts[None])] if None in counts else []
    texts = sorted([told for told in counts if told is not None])
    return refused + [(told, counts[told]) for told in texts]
