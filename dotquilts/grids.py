"""Grids of dots: refusing what is none, and the grid that has a border alone."""

from dotquilts.checks import is_bit, is_row
from dotquilts.errors import NoGrid
from dotquilts.sizes import SIDES, border_dots, border_value


def need_rows(many, grid):
    """Refuse what is no row of so many items."""
    if not is_row(grid) or len(grid) != many:
        raise NoGrid(-1, -1)


def need_row(many, row, dots, gapped):
    """Refuse what is no row of so many dots, some of which may be lost if it is gapped."""
    if not is_row(dots) or len(dots) != many:
        raise NoGrid(row, -1)
    for column, dot in enumerate(dots):
        if not is_bit(dot) and not (gapped and dot is None):
            raise NoGrid(row, column)


def need_grid(size, grid):
    """Refuse what is no grid of a size."""
    need_rows(SIDES[size - 1], grid)
    for row, dots in enumerate(grid):
        need_row(SIDES[size - 1], row, dots, True)


def need_whole_grid(size, grid):
    """Refuse what is no grid of a size, or has a lost dot."""
    need_rows(SIDES[size - 1], grid)
    for row, dots in enumerate(grid):
        need_row(SIDES[size - 1], row, dots, False)


def need_any_grid(grid):
    """Refuse what is no grid of any size; the size is returned."""
    if not is_row(grid) or len(grid) not in SIDES:
        raise NoGrid(-1, -1)
    size = SIDES.index(len(grid)) + 1
    need_grid(size, grid)
    return size


def bordered(size):
    """The grid with the border, all dots within it being lost."""
    many = SIDES[size - 1]
    grid = [[None] * many for _ in range(many)]
    for row, column in border_dots(many - 1):
        grid[row][column] = border_value(many - 1, row, column)
    return grid
