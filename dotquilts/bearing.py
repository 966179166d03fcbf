"""Which sets of dots symbols bear: choices of so many dots, squares, lines, and the least sets that they do not."""

from dotquilts.bitrows import ones
from dotquilts.layouts import STRIPS
from dotquilts.marks import grid_of_marks
from dotquilts.sizes import SIDES, STRIP


def bounds_of(harm, mark):
    """The list of what bounds the lost and the lying dots of a set with this mark.

    Each is a tuple of how many things the set touches, the words of a block or the dots at which two formats are
    unlike, and of how many of them may be lost, where one that lies counts twice. What is never exceeded is left
    out.
    """
    most = {}
    for told in harm.differences:
        limit = ones(told) - 1
        most[limit] = max(most.get(limit, 0), ones(told & mark >> harm.words))
    bounds = [(ones(mark & block), harm.checks) for block in harm.blocks] + [(most[limit], limit) for limit in most]
    return [(touched, limit) for touched, limit in bounds if 2 * touched > limit]


def most_lying(bounds, many, lost):
    """How many of so many dots may lie, whichever they are, if so many others are lost; below 0 if these are too many.

    The harm is greatest if all of them touch other things. If there are fewer things than dots, those that lie come
    first, and the lost ones touch what is left.
    """
    return min([many - lost] + [max((limit - lost) // 2, limit - touched) for touched, limit in bounds])


def pairs_borne(harm, mark, many):
    """The ascending list of the greatest pairs of numbers of lost and lying dots that a set of so many dots bears."""
    bounds = bounds_of(harm, mark)
    counts = []
    for lost in range(many + 1):
        lying = most_lying(bounds, many, lost)
        if lying < 0:
            break
        counts.append(lying)
    behind = counts[1:] + [-1]
    return [(lost, lying) for lost, (lying, less) in enumerate(zip(counts, behind)) if less < lying]


def widened(marks, step):
    """The marks of greater squares: each one is four of those that there are, the others a step beside and below."""
    rows = [[one | other for one, other in zip(row, row[step:])] for row in marks]
    return [[one | other for one, other in zip(row, below)] for row, below in zip(rows, rows[step:])]


def marks_of_squares(size, many):
    """For each row the list of the marks of all squares with so many rows, each at its upper left dot."""
    marks = grid_of_marks(size)
    side = 1
    while side < many:
        step = min(side, many - side)
        marks = widened(marks, step)
        side += step
    return marks


def squares_harmed(harm, kind, marks):
    """The list of the upper left dots of the squares that are not borne."""
    return [(row, column) for row, line in enumerate(marks) for column, mark in enumerate(line)
            if harm.harms_as(kind, mark)]


def first_square(harm, kind, marks):
    """The upper left dot of the first square that is borne; None if there is none."""
    for row, line in enumerate(marks):
        for column, mark in enumerate(line):
            if not harm.harms_as(kind, mark):
                return row, column
    return None


def most_lines(harm, kind, lines):
    """The greatest number of neighbouring lines that are borne wherever they are, told by the marks of all lines."""
    many = 0
    while lines and not [mark for mark in lines if harm.harms_as(kind, mark)]:
        many += 1
        # Behind this, each mark is that of one line more.
        lines = [mark | more for mark, more in zip(lines, lines[1:])]
    return many


def united(marks):
    """The mark of all that has one of these marks."""
    found = 0
    for mark in marks:
        found |= mark
    return found


def most_rows_and_columns(harm, kind, size):
    """The greatest numbers of neighbouring rows, and of columns, that are borne wherever they are."""
    marks = grid_of_marks(size)
    rows = [united(line) for line in marks]
    columns = [united(line) for line in zip(*marks)]
    return most_lines(harm, kind, rows), most_lines(harm, kind, columns)


def first_in_block(marks, block, many):
    """The first set of so many dots that are in different words of a block."""
    seen = 0
    found = []
    for row, line in enumerate(marks):
        for column, mark in enumerate(line):
            if mark & block & ~seen:
                seen |= mark
                found.append((row, column))
    return found[:many]


def first_in_strips(size, difference, many):
    """The first set of so many of the dots at which two formats are unlike."""
    side = SIDES[size - 1]
    dots = [divmod(at, side) for step, at in enumerate(STRIPS[size - 1]) if difference >> 2 * STRIP - 1 - step & 1]
    return sorted(dots)[:many]


def least_set(harm, kind, size):
    """The first set of dots that is not borne: the first one of those that are just too many for one bound."""
    marks = grid_of_marks(size)
    too_many = harm.checks + 1 if kind == "lost" else harm.checks // 2 + 1
    found = [first_in_block(marks, block, too_many) for block in harm.blocks]
    for told in harm.differences:
        found.append(first_in_strips(size, told, ones(told) if kind == "lost" else ones(told) // 2))
    return min(found, key=lambda dots: (len(dots), dots))
