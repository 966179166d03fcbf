"""What the tests reckon of whole symbols by themselves, from points 27 to 36, without the package."""

from tests import reckoning, walking
from tests.walking import BITS, BLOCKS, CHECKS, PATHS, SIDES, STARTS

MASKS = range(8)
LEVELS = range(4)
FORMATS = [(level, mask) for level in LEVELS for mask in MASKS]
FORMAT_DOTS = {size: walking.strips(size)[0] + walking.strips(size)[1] for size in SIDES}
POSES = [(turn, flip) for turn in range(4) for flip in (False, True)]

RULES = [
    lambda i, j: (i + j) % 2 == 0,
    lambda i, j: (i + 2 * j) % 3 == 0,
    lambda i, j: i % 3 == 1,
    lambda i, j: j % 4 < 2,
    lambda i, j: (i // 2 + j // 2) % 2 == 0,
    lambda i, j: (i * j) % 3 == 0,
    lambda i, j: (i * i + j) % 5 < 2,
    lambda i, j: (i + j) % 7 < 3,
]


def format_bits(level, mask):
    """The ten bits of a format, the remainder found by a division bit by bit."""
    data = [int(bit) for bit in format(8 * level + mask, "05b")]
    rest = data + [0] * 5
    for at in range(5):
        if rest[at]:
            for step, bit in enumerate((1, 1, 0, 1, 0, 1)):
                rest[at + step] ^= bit
    turned = [int(bit) for bit in format(709, "010b")]
    return [bit ^ turn for bit, turn in zip(data + rest[5:], turned)]


def unlike_format(size, grid, level, mask):
    wanted = format_bits(level, mask) * 2
    seen = [grid[row][column] for row, column in FORMAT_DOTS[size]]
    return sum(shade is not None and shade != bit for shade, bit in zip(seen, wanted))


def nearest_format(size, grid):
    found = sorted((unlike_format(size, grid, *told), told) for told in FORMATS)
    if found[0][0] == found[1][0]:
        return None
    return found[0][1] + (found[0][0],)


def masked(size, grid, mask):
    found = [list(dots) for dots in grid]
    for row, column in PATHS[size]:
        if found[row][column] is not None and RULES[mask](row, column):
            found[row][column] ^= 1
    return found


def penalty_parts(grid):
    """Line by line and square by square."""
    many = len(grid)
    lines = [list(dots) for dots in grid] + [[dots[column] for dots in grid] for column in range(many)]
    runs = 0
    for line in lines:
        at = 0
        while at < many:
            end = at
            while end < many and line[end] == line[at]:
                end += 1
            if end - at >= 5:
                runs += end - at - 2
            at = end
    squares = 0
    for row in range(many - 1):
        for column in range(many - 1):
            if len({grid[row][column], grid[row][column + 1], grid[row + 1][column], grid[row + 1][column + 1]}) == 1:
                squares += 3
    dark = sum(sum(dots) for dots in grid)
    return runs, squares, 20 * abs(2 * dark - many * many) // (many * many)


def drawn(size, level, mask, words):
    grid = masked(size, walking.with_words(size, words), mask)
    for (row, column), bit in zip(FORMAT_DOTS[size], format_bits(level, mask) * 2):
        grid[row][column] = bit
    return grid


def right_row(code, data):
    """The data words and their check words: the remainder of a division, word by word."""
    bits, many, start = code
    factor = [1]
    for step in range(many):
        factor = reckoning.poly_product(bits, factor, [1, reckoning.two_to(bits, start + step)])
    rest = list(data) + [0] * many
    for at in range(len(data)):
        lead = rest[at]
        for step, word in enumerate(factor):
            rest[at + step] ^= reckoning.TABLES[bits][lead][word]
    return list(data) + rest[len(data):]


def code_of(size, level):
    return BITS[size], CHECKS[size][level], STARTS[size][level]


def data_count(size, level):
    return sum(BLOCKS[size]) - len(BLOCKS[size]) * CHECKS[size][level]


def right_blocks(size, level, data):
    found, at = [], 0
    for many in BLOCKS[size]:
        own = many - CHECKS[size][level]
        found.append(right_row(code_of(size, level), data[at:at + own]))
        at += own
    return found


def symbol_of(size, level, mask, data):
    return drawn(size, level, mask, walking.dealt(size, level, right_blocks(size, level, data)))


def word_dots(size, level, block, at):
    """The dots of a word of a block."""
    index = walking.BLOCK_WORDS[size, level][block][at]
    return PATHS[size][index * BITS[size]:(index + 1) * BITS[size]]


def posed(grid, pose):
    """Dot by dot: mirrored first, then turned to the right."""
    last = len(grid) - 1
    turn, flip = pose
    found = [[grid[row][last - column if flip else column] for column in range(last + 1)] for row in range(last + 1)]
    for _ in range(turn):
        found = [[found[last - column][row] for column in range(last + 1)] for row in range(last + 1)]
    return found


def unposed(grid, pose):
    turn, flip = pose
    found = [list(dots) for dots in grid]
    for _ in range((4 - turn) % 4):
        found = posed(found, (1, False))
    return posed(found, (0, True)) if flip else found


def border_faults(grid, pose):
    size = {many: size for size, many in SIDES.items()}[len(grid)]
    edge = walking.border(size)
    here = unposed(grid, pose)
    return [dot for dot in sorted(edge) if here[dot[0]][dot[1]] not in (None, edge[dot])]
