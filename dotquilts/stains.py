"""Stains: dots that are lost or lie, which of them do no harm, and what could be told in spite of them."""

from dotquilts.bearing import (
    first_square, least_set, marks_of_squares, most_rows_and_columns, pairs_borne, squares_harmed, widened,
)
from dotquilts.bitrows import places_set
from dotquilts.checks import is_dot, is_number_to, is_row
from dotquilts.errors import NoKind, NoNumber, NoPaper, NoStain
from dotquilts.fields import is_word
from dotquilts.formats import MASKS
from dotquilts.frames import Frame
from dotquilts.marks import STAIN_KINDS, Harm, grid_of_marks, mark_of
from dotquilts.sizes import SIDES, WORD_BITS, data_count, need_level, need_size
from dotquilts.spans import Span
from dotquilts.symbols import symbol_of, words_of_data, words_told


def need_stain(size, part, dots):
    """Refuse what is no list or tuple of different dots of a size."""
    need_other_dots(size, part, dots, ())


def need_other_dots(size, part, dots, others):
    """Refuse what is no list or tuple of different dots of a size, none of them among the others, which are dots."""
    if not is_row(dots):
        raise NoStain(part, -1)
    seen = {dot: True for dot in others}
    for at, dot in enumerate(dots):
        if not is_dot(dot, SIDES[size - 1]) or dot in seen:
            raise NoStain(part, at)
        seen[dot] = True


def need_whole_stain(size, level, lost, lying):
    """Refuse what is no size, no level, or no stain of lost and of lying dots."""
    need_size(size)
    need_level(level)
    need_stain(size, "lost", lost)
    need_other_dots(size, "lying", lying, lost)


def need_kind_of_stain(size, level, kind):
    """Refuse what is no size, no level, or neither "lost" nor "lying"."""
    need_size(size)
    need_level(level)
    if not isinstance(kind, str) or kind not in STAIN_KINDS:
        raise NoKind(kind)


def is_harmless(size, level, lost=(), lying=()):
    """Whether all symbols of a level are told as they were if these dots are lost and any of those lie."""
    need_whole_stain(size, level, lost, lying)
    return not Harm(size, level).harms(mark_of(size, lost), mark_of(size, lying))


def one_for_each_word(size, lost_mark, dots):
    """The ascending list of the first dots of the words that are touched, but not by lost dots."""
    seen = lost_mark
    found = []
    for dot in sorted(dots):
        mark = mark_of(size, [dot])
        if mark & ~seen:
            found.append(dot)
            seen |= mark
    return found


def harm(size, level, lost=(), lying=()):
    """A mask, data words and lying dots that show that a stain is harmful; None if it is not."""
    need_whole_stain(size, level, lost, lying)
    judge = Harm(size, level)
    lost_mark = mark_of(size, lost)
    lying_mark = mark_of(size, lying)
    data = (0,) * data_count(size, level)
    block = judge.hurt_block(lost_mark, lying_mark)
    if block is not None:
        dots = [dot for dot in lying if mark_of(size, [dot]) & block]
        return 0, data, one_for_each_word(size, lost_mark, dots)
    difference = judge.unsure_format(lost_mark, lying_mark)
    if difference is None:
        return None
    return 0, data, sorted([dot for dot in lying if mark_of(size, [dot]) >> judge.words & difference])


def need_paper(size, level, lying, paper):
    """Refuse what is no mask, data words and lying dots."""
    if not isinstance(paper, tuple) or len(paper) != 3:
        raise NoPaper("paper")
    mask, data, dots = paper
    if not is_number_to(mask, 0, MASKS - 1):
        raise NoPaper("mask")
    if not is_data(size, level, data):
        raise NoPaper("data")
    if not is_row(dots):
        raise NoPaper("dots")
    left = {dot: True for dot in lying}
    for dot in dots:
        if not is_dot(dot, SIDES[size - 1]) or not left.get(dot, False):
            raise NoPaper("dots")
        left[dot] = False


def check_harm(size, level, lost, lying, paper):
    """Refuse what does not show that a stain is harmful."""
    need_whole_stain(size, level, lost, lying)
    need_paper(size, level, lying, paper)
    mask, data, dots = paper
    grid = symbol_of(size, level, mask, data)
    for row, column in lost:
        grid[row][column] = None
    for row, column in dots:
        grid[row][column] = 1 - grid[row][column]
    if words_told(size, grid) == (level, mask, list(data)):
        raise NoPaper("told")


def borne(size, level, dots):
    """The ascending list of the greatest pairs of numbers of dots, whichever ones, that do no harm lost and lying."""
    need_size(size)
    need_level(level)
    need_stain(size, "dots", dots)
    return pairs_borne(Harm(size, level), mark_of(size, dots), len(dots))


def greatest_square(size, level, kind):
    """The tuple of the greatest side of a square that is borne, and the upper left dot of the first such square."""
    need_kind_of_stain(size, level, kind)
    judge = Harm(size, level)
    marks = grid_of_marks(size)
    # A border dot alone is always borne; a square is if a greater one around it is.
    side = 1
    found = first_square(judge, kind, marks)
    while True:
        marks = widened(marks, 1)
        more = first_square(judge, kind, marks)
        if more is None:
            return side, found[0], found[1]
        side += 1
        found = more


def harmful_squares(size, level, kind, many):
    """The ascending list of the upper left dots of the squares with so many rows that are not borne."""
    need_kind_of_stain(size, level, kind)
    if not is_number_to(many, 1, SIDES[size - 1]):
        raise NoNumber("many")
    return squares_harmed(Harm(size, level), kind, marks_of_squares(size, many))


def lines_borne(size, level, kind):
    """The greatest number of neighbouring rows that are borne wherever they are, and likewise of columns."""
    need_kind_of_stain(size, level, kind)
    return most_rows_and_columns(Harm(size, level), kind, size)


def least_harmful(size, level, kind):
    """The first set of dots that is not borne."""
    need_kind_of_stain(size, level, kind)
    return least_set(Harm(size, level), kind, size)


def spans_of_lost(frame, lost):
    """For each block the span of the blocks that differ from one another in lost dots alone."""
    found = []
    for block, gone in enumerate(frame.bits_of(lost)):
        free = gone & frame.data_mask(block)
        span = Span([unit for unit in frame.units(block) if unit & free])
        for place in places_set((1 << frame.check_bits) - 1 & ~gone):
            if span.rows:
                span.take(1 << place)
        found.append(span)
    return found


def lookalikes(size, level, lost):
    """The data words of two symbols that differ in lost dots alone; None if no two do."""
    need_size(size)
    need_level(level)
    need_stain(size, "lost", lost)
    frame = Frame(size, level)
    firsts = [span.rows[:1] for span in spans_of_lost(frame, lost)]
    numbers = [rows[0] if rows else 0 for rows in firsts]
    if not any(numbers):
        return None
    return (0,) * data_count(size, level), tuple(frame.data_words(numbers))


def is_data(size, level, thing):
    """Whether a value is a list or tuple of all data words of a symbol."""
    if not is_row(thing) or len(thing) != data_count(size, level):
        return False
    return all([is_word(WORD_BITS[size - 1], word) for word in thing])


def are_lookalikes(size, level, lost, pair):
    """Whether a value is a tuple of two unlike rows of data words whose symbols differ in lost dots alone."""
    need_size(size)
    need_level(level)
    need_stain(size, "lost", lost)
    if not isinstance(pair, tuple) or len(pair) != 2:
        return False
    one, other = pair
    if not is_data(size, level, one) or not is_data(size, level, other) or list(one) == list(other):
        return False
    frame = Frame(size, level)
    unlike = [word ^ more for word, more in zip(one, other)]
    numbers = frame.numbers_of(words_of_data(size, level, unlike))
    return not any([number & ~gone for number, gone in zip(numbers, frame.bits_of(lost))])


def fitting_count(size, level, lost):
    """How many symbols look alike with a symbol, itself among them, if these dots are lost."""
    need_size(size)
    need_level(level)
    need_stain(size, "lost", lost)
    return 1 << sum([len(span.rows) for span in spans_of_lost(Frame(size, level), lost)])
