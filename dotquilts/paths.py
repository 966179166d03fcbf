"""The path through the word dots of a symbol, the words on it, and how the words of the blocks are dealt."""

from dotquilts.bitrows import bits_as_words, words_as_bits
from dotquilts.checks import is_number_to, is_row
from dotquilts.errors import NoBlock, NoIndex, NoWords
from dotquilts.fields import is_word
from dotquilts.grids import bordered, need_grid
from dotquilts.sizes import (
    BLOCKS, CHECKS, SIDES, WORD_BITS, is_on_border, need_dot, need_level, need_size, word_count,
)

# The way goes through all dots within the border. For each size from 1 on: which of its steps, counted from 0,
# meet format dots, which the path passes by. With them a dot's place is told without the path that leads there.
FORMAT_STEPS = (
    (10, 11, 12, 13, 14, 15, 21, 23, 24, 25, 26, 27, 28, 29, 30, 31, 32, 33, 34, 35),
    (18, 19, 20, 21, 58, 59, 60, 61, 80, 81, 83, 85, 87, 89, 91, 93, 95, 97, 98, 99),
    (82, 83, 84, 85, 138, 139, 140, 141, 169, 171, 173, 175, 177, 179, 181, 183, 185, 187, 194, 195),
    (178, 179, 180, 181, 250, 251, 252, 253, 289, 291, 293, 295, 297, 299, 301, 303, 305, 307, 322, 323),
    (306, 307, 308, 309, 394, 395, 396, 397, 441, 443, 445, 447, 449, 451, 453, 455, 457, 459, 482, 483),
)


def need_symbol_words(size, words, gapped):
    """Refuse what is no row of all words of a symbol, some of which may be lost if it is gapped."""
    if not is_row(words) or len(words) != word_count(size):
        raise NoWords(-1)
    for at, word in enumerate(words):
        if not is_word(WORD_BITS[size - 1], word) and not (gapped and word is None):
            raise NoWords(at)


def way_within(last):
    """All dots within a border, by pairs of columns from the right, up and down by turns."""
    found = []
    for right in range(last - 1, 0, -2):
        rows = list(range(1, last))
        if (last - 1 - right) % 4 == 0:
            rows.reverse()
        found.extend([(row, column) for row in rows for column in (right, right - 1)])
    return found


def step_of(last, row, column):
    """How many dots of the way are ahead of a dot within the border."""
    pair, left = divmod(last - 1 - column, 2)
    rows = last - 1 - row if pair % 2 == 0 else row - 1
    return 2 * (pair * (last - 1) + rows) + left


def path_dots(size):
    """The list of all word dots, in the order of the path."""
    passed = set(FORMAT_STEPS[size - 1])
    return [dot for step, dot in enumerate(way_within(SIDES[size - 1] - 1)) if step not in passed]


def path(size):
    """The list of all word dots, in the order of the path."""
    need_size(size)
    return path_dots(size)


def dots_of(size, index):
    """The list of the dots of a word, the one of the highest bit first."""
    need_size(size)
    if not is_number_to(index, 0, word_count(size) - 1):
        raise NoIndex(index)
    bits = WORD_BITS[size - 1]
    return path_dots(size)[index * bits:(index + 1) * bits]


def word_of(size, dot):
    """The tuple of the index of a word dot's word and its bit, counted from the highest; None for other dots."""
    need_size(size)
    need_dot(size, dot)
    row, column = dot
    last = SIDES[size - 1] - 1
    if is_on_border(last, row, column):
        return None
    step = step_of(last, row, column)
    passed = FORMAT_STEPS[size - 1]
    if step in passed:
        return None
    place = step - len([other for other in passed if other < step])
    return divmod(place, WORD_BITS[size - 1])


def words_on(size, grid):
    """The list of the words that stand in a grid, None for a word of which a dot is lost."""
    return bits_as_words([grid[row][column] for row, column in path_dots(size)], WORD_BITS[size - 1])


def words_in(size, grid):
    """The list of the words that stand in a grid, None for a word of which a dot is lost."""
    need_size(size)
    need_grid(size, grid)
    return words_on(size, grid)


def grid_of_words(size, words):
    """The grid with the border and these words, the format dots being lost."""
    grid = bordered(size)
    for (row, column), bit in zip(path_dots(size), words_as_bits(words, WORD_BITS[size - 1])):
        grid[row][column] = bit
    return grid


def with_words(size, words):
    """The grid with the border and these words, the format dots being lost."""
    need_size(size)
    need_symbol_words(size, words, False)
    return grid_of_words(size, words)


def block_places(size, level):
    """The list of the blocks, each the list of the indexes of its words among the dealt ones."""
    checks = CHECKS[size - 1][level]
    found = [[] for _ in BLOCKS[size - 1]]
    index = 0
    for lengths in ([many - checks for many in BLOCKS[size - 1]], [checks for _ in BLOCKS[size - 1]]):
        for step in range(max(lengths)):
            for block, length in enumerate(lengths):
                if step < length:
                    found[block].append(index)
                    index += 1
    return found


def dealt_words(size, level, blocks):
    """The list of the words of a symbol, of the words of its blocks."""
    words = [None] * word_count(size)
    for places, block in zip(block_places(size, level), blocks):
        for index, word in zip(places, block):
            words[index] = word
    return words


def gathered_words(size, level, words):
    """The list of the blocks, lists of words, of the words of a symbol."""
    return [[words[index] for index in places] for places in block_places(size, level)]


def need_block(size, block, words):
    """Refuse what is no row of the words of this block."""
    if not is_row(words) or len(words) != BLOCKS[size - 1][block]:
        raise NoBlock(block, -1)
    for at, word in enumerate(words):
        if not is_word(WORD_BITS[size - 1], word):
            raise NoBlock(block, at)


def dealt(size, level, blocks):
    """The list of the words of a symbol, of a row with a row of words for each block."""
    need_size(size)
    need_level(level)
    if not is_row(blocks) or len(blocks) != len(BLOCKS[size - 1]):
        raise NoWords(-1)
    for block, words in enumerate(blocks):
        need_block(size, block, words)
    return dealt_words(size, level, blocks)


def gathered(size, level, words):
    """The list of the blocks, lists of words, of the words of a symbol; lost ones stay None."""
    need_size(size)
    need_level(level)
    need_symbol_words(size, words, True)
    return gathered_words(size, level, words)


def block_words(size, level):
    """The list of the blocks, each the list of the indexes of its words."""
    need_size(size)
    need_level(level)
    return block_places(size, level)


def spot_of(size, level, index):
    """The tuple of the block of a word and its index in the block."""
    need_size(size)
    need_level(level)
    if not is_number_to(index, 0, word_count(size) - 1):
        raise NoIndex(index)
    spots = [(block, at) for block, places in enumerate(block_places(size, level))
             for at, place in enumerate(places) if place == index]
    return spots[0]


def index_at(size, level, block, index):
    """The index of the word that has this index in this block."""
    need_size(size)
    need_level(level)
    blocks = BLOCKS[size - 1]
    if not is_number_to(block, 0, len(blocks) - 1) or not is_number_to(index, 0, blocks[block] - 1):
        raise NoBlock(block, index)
    return block_places(size, level)[block][index]
