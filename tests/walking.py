"""What the tests reckon of the dots of symbols by themselves, from points 22 to 25, without the package."""

SIZES = range(1, 6)
LEVELS = range(4)
SIDES = {1: 8, 2: 12, 3: 16, 4: 20, 5: 24}
BITS = {1: 4, 2: 4, 3: 8, 4: 8, 5: 8}
BLOCKS = {1: [4], 2: [10, 10], 3: [22], 4: [19, 19], 5: [20, 19, 19]}
WORDS = {1: 4, 2: 20, 3: 22, 4: 38, 5: 58}
CHECKS = {1: (1, 2, 3, 3), 2: (2, 4, 6, 8), 3: (4, 8, 10, 12), 4: (4, 8, 10, 12), 5: (4, 8, 10, 12)}
STARTS = {1: (0, 1, 3, 6), 2: (0, 2, 6, 3), 3: (0, 60, 120, 180), 4: (0, 60, 120, 180), 5: (0, 60, 120, 180)}
DATA_BITS = {1: (12, 8, 4, 4), 2: (64, 48, 32, 16), 3: (144, 112, 96, 80), 4: (240, 176, 144, 112),
             5: (368, 272, 224, 176)}


def all_dots(size):
    return [(row, column) for row in range(SIDES[size]) for column in range(SIDES[size])]


def border(size):
    """The dict from border dots to 0 or 1; what is told twice must agree."""
    last = SIDES[size] - 1
    found = {}
    for at in range(last + 1):
        told = (((at, 0), 1), ((last, at), 1), ((0, at), 1 if at % 2 == 0 else 0),
                ((at, last), 1 if ((last - at) // 2) % 2 == 0 else 0))
        for dot, worth in told:
            if found.setdefault(dot, worth) != worth:
                raise AssertionError(f"the border disagrees at {dot}")
    return found


def strips(size):
    last = SIDES[size] - 1
    first, second = [], []
    for row in range(1, last):
        for column in range(1, last):
            if len(first) < 10:
                first.append((row, column))
    for column in range(1, last):
        for row in reversed(range(1, last)):
            if len(second) < 10 and (row, column) not in first:
                second.append((row, column))
    return [first, second]


def path(size):
    """The walk of point 24, dot by dot."""
    last = SIDES[size] - 1
    formats = strips(size)[0] + strips(size)[1]
    found = []
    right, row, step = last - 1, last - 1, -1
    while right > 0:
        for dot in ((row, right), (row, right - 1)):
            if dot not in formats:
                found.append(dot)
        row += step
        if row in (0, last):
            step = -step
            row += step
            right -= 2
    return found


PATHS = {size: path(size) for size in SIZES}


def words_in(size, grid):
    shades = [grid[row][column] for row, column in PATHS[size]]
    words = []
    for at in range(0, len(shades), BITS[size]):
        part = shades[at:at + BITS[size]]
        words.append(None if None in part else int("".join(map(str, part)), 2))
    return words


def with_words(size, words):
    grid = [[None] * SIDES[size] for _ in range(SIDES[size])]
    for (row, column), worth in border(size).items():
        grid[row][column] = worth
    text = "".join(format(word, "b").zfill(BITS[size]) for word in words)
    for (row, column), bit in zip(PATHS[size], text):
        grid[row][column] = int(bit)
    return grid


def dealt(size, level, blocks):
    """The words taken off the blocks, one by one: first the data words, then the check words."""
    checks = CHECKS[size][level]
    found = []
    for parts in ([list(block[:-checks]) for block in blocks], [list(block[-checks:]) for block in blocks]):
        while any(parts):
            for part in parts:
                if part:
                    found.append(part.pop(0))
    return found


def block_words(size, level):
    """Of each block, where its words are in the row of the dealt ones."""
    names = [[(block, at) for at in range(many)] for block, many in enumerate(BLOCKS[size])]
    row = dealt(size, level, names)
    return [[row.index(name) for name in block] for block in names]


BLOCK_WORDS = {(size, level): block_words(size, level) for size in SIZES for level in LEVELS}
