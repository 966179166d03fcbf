"""The penalty of a grid without lost dots, reckoned for all its dots at a time.

The dark dots are one large integer with a bit for each dot, row by row, and with a bit 0 between the rows, so that
no stretch goes on from one row to the next. A shift by one bit brings each dot to its neighbour in the row, a shift
by a whole row and the bit between to its neighbour in the column.
"""

from dotquilts.bitrows import ones

RUN_COST = 2
SQUARE_COST = 3
BALANCE_COST = 20


def dark_dots(grid):
    """The dark dots of a grid, as an integer."""
    return int("0".join(["".join(map(str, dots)) for dots in grid]), 2)


def every_dot(many):
    """All dots of a square with so many rows and columns, as an integer."""
    return int("0".join(["1" * many] * many), 2)


def equal_pairs(dark, every, step):
    """Each dot that is equal to the one ahead of it, which a shift of so many bits brings to it."""
    return every & every >> step & ~(dark ^ dark >> step)


def run_cost(pairs, step):
    """What the long stretches of equal dots cost, told by the pairs of neighbours that are equal."""
    twos = pairs & pairs >> step
    # Each stretch of five dots or more has four pairs less here; what it costs more than these is told by its end.
    left = twos & twos >> 2 * step
    return ones(left) + RUN_COST * ones(left & ~(left >> step))


def cost_of(dark, every, many):
    """The tuple of what runs, squares and balance cost, of the dark dots of a square with so many rows."""
    step = many + 1
    beside = equal_pairs(dark, every, 1)
    below = equal_pairs(dark, every, step)
    runs = run_cost(beside, 1) + run_cost(below, step)
    squares = SQUARE_COST * ones(beside & beside >> step & below)
    unlike = abs(2 * ones(dark) - many * many)
    return runs, squares, BALANCE_COST * unlike // (many * many)


def penalties_of(grid):
    """The tuple of what runs, squares and balance of a grid cost."""
    return cost_of(dark_dots(grid), every_dot(len(grid)), len(grid))
