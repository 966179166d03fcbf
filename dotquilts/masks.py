"""Masks: which dots they turn, how they look on a symbol, and the one with the least penalty."""

from dotquilts.checks import is_dot
from dotquilts.errors import NoDot
from dotquilts.formats import MASKS, need_mask, shades_of_format
from dotquilts.grids import need_grid, need_whole_grid
from dotquilts.paths import grid_of_words, need_symbol_words, path_dots
from dotquilts.penalties import penalties_of
from dotquilts.sizes import SIDES, need_level, need_size


def by_sum(row, column):
    """Mask 0."""
    return (row + column) % 2 == 0


def by_three(row, column):
    """Mask 1."""
    return (row + 2 * column) % 3 == 0


def by_row(row, _):
    """Mask 2."""
    return row % 3 == 1


def by_column(_, column):
    """Mask 3."""
    return column % 4 < 2


def by_squares(row, column):
    """Mask 4."""
    return (row // 2 + column // 2) % 2 == 0


def by_product(row, column):
    """Mask 5."""
    return (row * column) % 3 == 0


def by_five(row, column):
    """Mask 6."""
    return (row * row + column) % 5 < 2


def by_seven(row, column):
    """Mask 7."""
    return (row + column) % 7 < 3


RULES = (by_sum, by_three, by_row, by_column, by_squares, by_product, by_five, by_seven)


def turns(mask, dot):
    """1 if a mask turns a dot of size 5, otherwise 0."""
    need_mask(mask)
    if not is_dot(dot, SIDES[-1]):
        raise NoDot(dot)
    rule = RULES[mask]
    return 1 if rule(dot[0], dot[1]) else 0


def masked_grid(size, grid, mask):
    """The grid, of lists, with its word dots turned by a mask; lost ones stay lost."""
    rule = RULES[mask]
    found = [list(dots) for dots in grid]
    for row, column in path_dots(size):
        if rule(row, column) and found[row][column] is not None:
            found[row][column] = 1 - found[row][column]
    return found


def masked(size, grid, mask):
    """The grid, of lists, with its word dots turned by a mask; lost ones stay lost."""
    need_size(size)
    need_grid(size, grid)
    need_mask(mask)
    return masked_grid(size, grid, mask)


def penalty_parts(size, grid):
    """The tuple of what runs, squares and balance of a grid cost."""
    need_size(size)
    need_whole_grid(size, grid)
    return penalties_of(grid)


def penalty(size, grid):
    """What runs, squares and balance of a grid cost together."""
    return sum(penalty_parts(size, grid))


def with_format(size, level, mask, grid):
    """A grid with words, after its word dots are turned by the mask and its format dots laid."""
    found = masked_grid(size, grid, mask)
    for (row, column), bit in shades_of_format(size, level, mask):
        found[row][column] = bit
    return found


def drawn(size, level, mask, words):
    """The grid of the symbol with these dealt words."""
    need_size(size)
    need_level(level)
    need_mask(mask)
    need_symbol_words(size, words, False)
    return with_format(size, level, mask, grid_of_words(size, words))


def mask_chosen(size, level, words):
    """The first mask with the least penalty of the symbol with these dealt words."""
    grid = grid_of_words(size, words)
    costs = [sum(penalties_of(with_format(size, level, mask, grid))) for mask in range(MASKS)]
    return costs.index(min(costs))


def best_mask(size, level, words):
    """The first mask with the least penalty of the symbol with these dealt words."""
    need_size(size)
    need_level(level)
    need_symbol_words(size, words, False)
    return mask_chosen(size, level, words)
