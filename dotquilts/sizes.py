"""What the sizes and levels of symbols fix: sides, words, blocks, and the dots of border and format."""

from dotquilts.checks import is_dot, is_number_to
from dotquilts.errors import NoDot, NoLevel, NoSize

# Each table has an item for each size from 1 on; those of the last two have one for each level.
SIDES = (8, 12, 16, 20, 24)
WORD_BITS = (4, 4, 8, 8, 8)
BLOCKS = ((4,), (10, 10), (22,), (19, 19), (20, 19, 19))
CHECKS = ((1, 2, 3, 3), (2, 4, 6, 8), (4, 8, 10, 12), (4, 8, 10, 12), (4, 8, 10, 12))
STARTS = ((0, 1, 3, 6), (0, 2, 6, 3), (0, 60, 120, 180), (0, 60, 120, 180), (0, 60, 120, 180))

LEVELS = 4
STRIP = 10


def need_size(size):
    """Refuse what is no size."""
    if not is_number_to(size, 1, len(SIDES)):
        raise NoSize(size)


def need_level(level):
    """Refuse what is no level."""
    if not is_number_to(level, 0, LEVELS - 1):
        raise NoLevel(level)


def need_dot(size, dot):
    """Refuse what is no dot of a size."""
    if not is_dot(dot, SIDES[size - 1]):
        raise NoDot(dot)


def side(size):
    """How many rows, and how many columns, a symbol has."""
    need_size(size)
    return SIDES[size - 1]


def word_bits(size):
    """How many bits a word has."""
    need_size(size)
    return WORD_BITS[size - 1]


def word_count(size):
    """How many words all blocks have."""
    return sum(block_sizes(size))


def block_sizes(size):
    """The list of the numbers of words of the blocks."""
    need_size(size)
    return list(BLOCKS[size - 1])


def check_count(size, level):
    """How many check words each block has."""
    need_size(size)
    need_level(level)
    return CHECKS[size - 1][level]


def code_start(size, level):
    """Where the code of each block starts."""
    need_size(size)
    need_level(level)
    return STARTS[size - 1][level]


def data_count(size, level):
    """How many data words all blocks have."""
    checks = check_count(size, level)
    return sum([words - checks for words in block_sizes(size)])


def data_bits(size, level):
    """How many bits all data words have."""
    return data_count(size, level) * word_bits(size)


def border_value(last, row, column):
    """What a border dot is, in a symbol whose last row and column are `last`."""
    if column == 0 or row == last:
        return 1
    if row == 0:
        return 1 - column % 2
    return 1 - ((last - row) // 2) % 2


def border_dots(last):
    """The list of all border dots, ascending."""
    columns = range(last + 1)
    edges = [(row, column) for row in range(1, last) for column in (0, last)]
    return [(0, column) for column in columns] + edges + [(last, column) for column in columns]


def border(size):
    """The dict from all border dots, ascending, to 0 or 1."""
    last = side(size) - 1
    return {dot: border_value(last, dot[0], dot[1]) for dot in border_dots(last)}


def second_height(inner):
    """How many rows the first strip leaves free in the columns where the second one stands."""
    return inner - (STRIP + inner - 1) // inner


def strips(size):
    """The list of the two strips of format dots, lists of dots."""
    last = side(size) - 1
    inner = last - 1
    height = second_height(inner)
    first = [(1 + at // inner, 1 + at % inner) for at in range(STRIP)]
    second = [(inner - at % height, 1 + at // height) for at in range(STRIP)]
    return [first, second]


def is_on_border(last, row, column):
    """Whether a dot is in the first or last row or column."""
    return row == 0 or column == 0 or row == last or column == last


def kind_at(last, row, column):
    """Which kind of dot it is, in a symbol whose last row and column are `last`.

    It is reckoned from the dot's own place, as many dots are asked for: no strip is laid out.
    """
    if is_on_border(last, row, column):
        return "border"
    inner = last - 1
    if (row - 1) * inner + column <= STRIP:
        return "format"
    if (column - 1) * second_height(inner) + last - row <= STRIP:
        return "format"
    return "word"


def kind_of(size, dot):
    """Which kind of dot it is: "border", "format" or "word"."""
    need_size(size)
    need_dot(size, dot)
    return kind_at(SIDES[size - 1] - 1, dot[0], dot[1])
