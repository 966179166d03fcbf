"""What the tests reckon of stains by themselves, from points 38 to 42, without the package."""

from tests import drawing, walking
from tests.walking import BITS, BLOCKS, CHECKS, LEVELS, PATHS, SIZES

# Of each word dot the index of its word; of each format dot the strip and the place there.
WORD_AT = {size: {dot: at // BITS[size] for at, dot in enumerate(PATHS[size])} for size in SIZES}
FORMAT_AT = {size: {dot: at % 10 for at, dot in enumerate(drawing.FORMAT_DOTS[size])} for size in SIZES}
BLOCK_AT = {(size, level): {index: block for block, places in enumerate(walking.BLOCK_WORDS[size, level])
                            for index in places} for size in SIZES for level in LEVELS}
FORMAT_BITS = [drawing.format_bits(level, mask) for level, mask in drawing.FORMATS]
# The places in a strip at which a format is unlike another one, for each pair of formats of which one has the level.
UNLIKE = {level: sorted({tuple(at for at in range(10) if FORMAT_BITS[one][at] != FORMAT_BITS[other][at])
                         for one in range(8 * level, 8 * level + 8) for other in range(32) if one != other})
          for level in LEVELS}


def block_counts(size, level, lost, lying):
    """For each block the number of words that lost dots touch, and of others that lying dots touch."""
    gone = {WORD_AT[size][dot] for dot in lost if dot in WORD_AT[size]}
    wrong = {WORD_AT[size][dot] for dot in lying if dot in WORD_AT[size]} - gone
    block_at = BLOCK_AT[size, level]
    return [(sum(block_at[index] == block for index in gone), sum(block_at[index] == block for index in wrong))
            for block in range(len(BLOCKS[size]))]


def formats_told(size, level, lost, lying):
    """Whether each format of the level is told for certain."""
    gone = [FORMAT_AT[size][dot] for dot in lost if dot in FORMAT_AT[size]]
    wrong = [FORMAT_AT[size][dot] for dot in lying if dot in FORMAT_AT[size]]
    return all(2 * len(places) - sum(at in places for at in gone) > 2 * sum(at in places for at in wrong)
               for places in UNLIKE[level])


def is_harmless(size, level, lost, lying):
    """By the fact behind point 39."""
    counts = block_counts(size, level, lost, lying)
    if any(gone + 2 * wrong > CHECKS[size][level] for gone, wrong in counts):
        return False
    return formats_told(size, level, lost, lying)


def is_borne(size, level, kind, dots):
    return is_harmless(size, level, dots, ()) if kind == "lost" else is_harmless(size, level, (), dots)


def square(row, column, many):
    return [(row + down, column + right) for down in range(many) for right in range(many)]
