"""The penalty of a grid without lost dots, reckoned for all its dots at a time.

A shade, the dark or the light dots, is one large integer with a bit for each dot, row by row, and with a bit 0
between the rows, so that no stretch goes on from one row to the next. A shift by one bit brings each dot to its
neighbour in the row, a shift by a whole row and the bit between to its neighbour in the column.
"""

from dotquilts.bitrows import ones

LEAST_RUN = 5
RUN_LESS = 2
SQUARE_COST = 3
BALANCE_COST = 20


def shades_of(grid):
    """The tuple of the dark and of the light dots of a grid, as integers."""
    many = len(grid)
    dark = int("0".join(["".join(map(str, dots)) for dots in grid]), 2)
    every = int("0".join(["1" * many] * many), 2)
    return dark, every ^ dark


def run_cost(shade, step):
    """What the long stretches of a shade cost, from dot to dot by a shift of so many bits."""
    left = shade
    for behind in range(1, LEAST_RUN):
        left &= shade >> behind * step
    # Each stretch has lost the same number of dots; what it costs more than those that are left is told by its end.
    ends = left & ~(left >> step)
    return ones(left) + (LEAST_RUN - 1 - RUN_LESS) * ones(ends)


def square_cost(shade, step):
    """What the squares of a shade cost, where a shift of so many bits leads to the next row."""
    pairs = shade & shade >> 1
    return SQUARE_COST * ones(pairs & pairs >> step)


def penalties_of(grid):
    """The tuple of what runs, squares and balance of a grid cost."""
    dark, light = shades_of(grid)
    step = len(grid) + 1
    runs = sum([run_cost(shade, shift) for shade in (dark, light) for shift in (1, step)])
    squares = square_cost(dark, step) + square_cost(light, step)
    unlike = abs(ones(dark) - ones(light))
    return runs, squares, BALANCE_COST * unlike // (len(grid) * len(grid))
