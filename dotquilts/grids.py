"""Grids of dots: refusing what is none."""

from dotquilts.checks import is_bit, is_row
from dotquilts.errors import NoGrid
from dotquilts.sizes import SIDES


def is_plain_grid(many, grid):
    """Whether a row is plainly one of so many rows of dots, lost ones among them.

    Nearly all grids are right, and found to be so here, at once; only others are gone through dot by dot.
    """
    if [dots for dots in grid if not isinstance(dots, (list, tuple)) or len(dots) != many]:
        return False
    odd = [dot for dots in grid for dot in dots if (type(dot) is not int or dot > 1 or dot < 0) and dot is not None]
    return not odd


def need_plain_dots(row, dots):
    """Refuse a row in which an item is no dot; nearly all rows are right, and found to be so at once."""
    if [dot for dot in dots if (type(dot) is not int or dot > 1 or dot < 0) and dot is not None]:
        need_dots(row, dots, True)


def need_dots(row, dots, gapped):
    """Refuse a row in which an item is no dot; some dots may be lost if it is gapped."""
    for column, dot in enumerate(dots):
        if not is_bit(dot) and not (gapped and dot is None):
            raise NoGrid(row, column)


def need_dot_rows(many, grid, gapped):
    """Refuse what is no row of so many rows of so many dots, some of which may be lost if it is gapped."""
    if not is_row(grid) or len(grid) != many:
        raise NoGrid(-1, -1)
    if is_plain_grid(many, grid) and (gapped or not [dots for dots in grid if None in dots]):
        return
    for row, dots in enumerate(grid):
        if not is_row(dots) or len(dots) != many:
            raise NoGrid(row, -1)
        need_dots(row, dots, gapped)


def need_grid(size, grid):
    """Refuse what is no grid of a size."""
    need_dot_rows(SIDES[size - 1], grid, True)


def need_whole_grid(size, grid):
    """Refuse what is no grid of a size, or has a lost dot."""
    need_dot_rows(SIDES[size - 1], grid, False)


def need_any_grid(grid):
    """Refuse what is no grid of any size; the size is returned."""
    if not is_row(grid) or len(grid) not in SIDES:
        raise NoGrid(-1, -1)
    size = SIDES.index(len(grid)) + 1
    need_grid(size, grid)
    return size
