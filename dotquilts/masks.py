"""Masks: which dots they turn, how they look on a symbol, and the one with the least penalty."""

from dotquilts.bitrows import words_as_bits
from dotquilts.checks import is_dot
from dotquilts.errors import NoDot
from dotquilts.formats import need_mask, strip_shades
from dotquilts.grids import need_grid, need_whole_grid
from dotquilts.layouts import PLACES, STRIPS
from dotquilts.maskings import MASK_SHADES, MASK_WORDS
from dotquilts.paths import grid_of_words, need_symbol_words
from dotquilts.penalties import cost_of, dark_dots, every_dot, penalties_of
from dotquilts.sizes import SIDES, STRIP, WORD_BITS, need_level, need_size


def by_sum(row, column):
    """Mask 0."""
    return (row + column) % 2 == 0


def by_three(row, column):
    """Mask 1."""
    return (row + 2 * column) % 3 == 0


def by_row(row, _):
    """Mask 2."""
    return row % 3 == 1


def by_column(_, column):
    """Mask 3."""
    return column % 4 < 2


def by_squares(row, column):
    """Mask 4."""
    return (row // 2 + column // 2) % 2 == 0


def by_product(row, column):
    """Mask 5."""
    return (row * column) % 3 == 0


def by_five(row, column):
    """Mask 6."""
    return (row * row + column) % 5 < 2


def by_seven(row, column):
    """Mask 7."""
    return (row + column) % 7 < 3


RULES = (by_sum, by_three, by_row, by_column, by_squares, by_product, by_five, by_seven)


def turns(mask, dot):
    """1 if a mask turns a dot of size 5, otherwise 0."""
    need_mask(mask)
    if not is_dot(dot, SIDES[-1]):
        raise NoDot(dot)
    rule = RULES[mask]
    return 1 if rule(dot[0], dot[1]) else 0


def masked_words(size, mask, words):
    """The dealt words with a mask on them, or taken off; lost ones stay lost."""
    turned = MASK_WORDS[size - 1][mask]
    return [None if word is None else word ^ turn for word, turn in zip(words, turned)]


def masked_grid(size, grid, mask):
    """The grid, of lists, with its word dots turned by a mask; lost ones stay lost."""
    turned = words_as_bits(MASK_WORDS[size - 1][mask], WORD_BITS[size - 1]) + [0] * (2 * STRIP + 2)
    return [[None if dot is None else dot ^ turned[place] for dot, place in zip(dots, places)]
            for dots, places in zip(grid, PLACES[size - 1])]


def masked(size, grid, mask):
    """The grid, of lists, with its word dots turned by a mask; lost ones stay lost."""
    need_size(size)
    need_grid(size, grid)
    need_mask(mask)
    return masked_grid(size, grid, mask)


def penalty_parts(size, grid):
    """The tuple of what runs, squares and balance of a grid cost."""
    need_size(size)
    need_whole_grid(size, grid)
    return penalties_of(grid)


def penalty(size, grid):
    """What runs, squares and balance of a grid cost together."""
    return sum(penalty_parts(size, grid))


def drawn_grid(size, level, mask, words):
    """The grid of the symbol with these dealt words."""
    return grid_of_words(size, masked_words(size, mask, words), strip_shades(level, mask))


def drawn(size, level, mask, words):
    """The grid of the symbol with these dealt words."""
    need_size(size)
    need_level(level)
    need_mask(mask)
    need_symbol_words(size, words, False)
    return drawn_grid(size, level, mask, words)


def strip_pairs(many, strips):
    """For each bit of a format both its dots, as one of the integers that penalties are reckoned of."""
    shades = [1 << (many + 1) * (many - 1 - at // many) + many - 1 - at % many for at in strips]
    return [one | other for one, other in zip(shades[:STRIP], shades[STRIP:])]


def mask_chosen(size, level, words):
    """The first mask with the least penalty of the symbol with these dealt words.

    The grid is laid once; each mask turns its dots, and sets those of its format, all at a time.
    """
    many = SIDES[size - 1]
    plain = dark_dots(grid_of_words(size, words, [0] * (2 * STRIP)))
    every = every_dot(many)
    pairs = strip_pairs(many, STRIPS[size - 1])
    costs = []
    for mask, shades in enumerate(MASK_SHADES[size - 1]):
        told = sum([pair for pair, bit in zip(pairs, strip_shades(level, mask)) if bit])
        costs.append(sum(cost_of(plain ^ int(shades, 16) ^ told, every, many)))
    return costs.index(min(costs))


def best_mask(size, level, words):
    """The first mask with the least penalty of the symbol with these dealt words."""
    need_size(size)
    need_level(level)
    need_symbol_words(size, words, False)
    return mask_chosen(size, level, words)
