"""The path through the word dots of a symbol, the words on it, and how the words of the blocks are dealt."""

from dotquilts.bitrows import bits_as_words, words_as_bits
from dotquilts.checks import are_plain_words, is_number_to, is_row
from dotquilts.errors import NoBlock, NoIndex, NoWords
from dotquilts.fields import is_word
from dotquilts.grids import need_grid
from dotquilts.layouts import PATHS, PLACES
from dotquilts.sizes import BLOCKS, CHECKS, SIDES, STRIP, WORD_BITS, need_dot, need_level, need_size, word_count


def need_symbol_words(size, words, gapped):
    """Refuse what is no row of all words of a symbol, some of which may be lost if it is gapped."""
    if not is_row(words) or len(words) != word_count(size):
        raise NoWords(-1)
    if are_plain_words(WORD_BITS[size - 1], words):
        return
    for at, word in enumerate(words):
        if not is_word(WORD_BITS[size - 1], word) and not (gapped and word is None):
            raise NoWords(at)


def path_dots(size):
    """The list of all word dots, in the order of the path."""
    many = SIDES[size - 1]
    return [divmod(at, many) for at in PATHS[size - 1]]


def path(size):
    """The list of all word dots, in the order of the path."""
    need_size(size)
    return path_dots(size)


def dots_of(size, index):
    """The list of the dots of a word, the one of the highest bit first."""
    need_size(size)
    if not is_number_to(index, 0, word_count(size) - 1):
        raise NoIndex(index)
    bits = WORD_BITS[size - 1]
    return path_dots(size)[index * bits:(index + 1) * bits]


def word_of(size, dot):
    """The tuple of the index of a word dot's word and its bit, counted from the highest; None for other dots."""
    need_size(size)
    need_dot(size, dot)
    place = PLACES[size - 1][dot[0]][dot[1]]
    return divmod(place, WORD_BITS[size - 1]) if place < len(PATHS[size - 1]) else None


def words_on(size, grid):
    """The list of the words that stand in a grid, None for a word of which a dot is lost."""
    shades = [dot for dots in grid for dot in dots]
    return bits_as_words([shades[at] for at in PATHS[size - 1]], WORD_BITS[size - 1])


def words_in(size, grid):
    """The list of the words that stand in a grid, None for a word of which a dot is lost."""
    need_size(size)
    need_grid(size, grid)
    return words_on(size, grid)


def grid_of_words(size, words, strip_shades):
    """The grid with the border, these words and these format dots, strip by strip."""
    shades = words_as_bits(words, WORD_BITS[size - 1]) + strip_shades + [0, 1]
    return [[shades[place] for place in places] for places in PLACES[size - 1]]


def with_words(size, words):
    """The grid with the border and these words, the format dots being lost."""
    need_size(size)
    need_symbol_words(size, words, False)
    return grid_of_words(size, words, [None] * (2 * STRIP))


def block_places(size, level):
    """The list of the blocks, each the list of the indexes of its words among the dealt ones.

    Block by block the words follow one another in steps; a block with a data word more than others have is among
    the first ones, and these words stand behind all the other data words.
    """
    blocks = BLOCKS[size - 1]
    many = len(blocks)
    checks = CHECKS[size - 1][level]
    own = min(blocks) - checks
    longer = [block for block, words in enumerate(blocks) if words > min(blocks)]
    found = []
    for block in range(many):
        more = [many * own + block] if block in longer else []
        first_check = many * own + len(longer) + block
        found.append(list(range(block, many * own, many)) + more
                     + list(range(first_check, first_check + many * checks, many)))
    return found


def dealt_words(size, level, blocks):
    """The list of the words of a symbol, of the words of its blocks."""
    words = [None] * word_count(size)
    for places, block in zip(block_places(size, level), blocks):
        for index, word in zip(places, block):
            words[index] = word
    return words


def gathered_words(size, level, words):
    """The list of the blocks, lists of words, of the words of a symbol."""
    return [[words[index] for index in places] for places in block_places(size, level)]


def need_block(size, block, words):
    """Refuse what is no row of the words of this block."""
    if not is_row(words) or len(words) != BLOCKS[size - 1][block]:
        raise NoBlock(block, -1)
    for at, word in enumerate(words):
        if not is_word(WORD_BITS[size - 1], word):
            raise NoBlock(block, at)


def dealt(size, level, blocks):
    """The list of the words of a symbol, of a row with a row of words for each block."""
    need_size(size)
    need_level(level)
    if not is_row(blocks) or len(blocks) != len(BLOCKS[size - 1]):
        raise NoWords(-1)
    for block, words in enumerate(blocks):
        need_block(size, block, words)
    return dealt_words(size, level, blocks)


def gathered(size, level, words):
    """The list of the blocks, lists of words, of the words of a symbol; lost ones stay None."""
    need_size(size)
    need_level(level)
    need_symbol_words(size, words, True)
    return gathered_words(size, level, words)


def block_words(size, level):
    """The list of the blocks, each the list of the indexes of its words."""
    need_size(size)
    need_level(level)
    return block_places(size, level)


def spot_of(size, level, index):
    """The tuple of the block of a word and its index in the block."""
    need_size(size)
    need_level(level)
    if not is_number_to(index, 0, word_count(size) - 1):
        raise NoIndex(index)
    spots = [(block, at) for block, places in enumerate(block_places(size, level))
             for at, place in enumerate(places) if place == index]
    return spots[0]


def index_at(size, level, block, index):
    """The index of the word that has this index in this block."""
    need_size(size)
    need_level(level)
    blocks = BLOCKS[size - 1]
    if not is_number_to(block, 0, len(blocks) - 1) or not is_number_to(index, 0, blocks[block] - 1):
        raise NoBlock(block, index)
    return block_places(size, level)[block][index]
