"""Pictures: which dots of symbols can be chosen as one likes, and why others cannot."""

from dotquilts.bitrows import ones, places_set, words_as_bits
from dotquilts.checks import is_bit, is_dot, is_number_to, is_row
from dotquilts.errors import NoAnswer, NoDots, NoPattern, NoWish
from dotquilts.fields import is_word
from dotquilts.fitting import pattern_of_text
from dotquilts.formats import MASKS, need_mask
from dotquilts.frames import Frame
from dotquilts.layouts import PLACES
from dotquilts.pieces import need_text
from dotquilts.sizes import SIDES, STRIP, WORD_BITS, data_bits, data_count, need_level, need_size
from dotquilts.spans import Span
from dotquilts.symbols import symbol_of
from dotquilts.wishes import Wish


def need_wish(size, wish):
    """Refuse what is no dict from dots of a size to 0 or 1."""
    if not isinstance(wish, dict):
        raise NoWish(None)
    for dot, value in wish.items():
        if not is_dot(dot, SIDES[size - 1]) or not is_bit(value):
            raise NoWish(dot)


def need_pattern(size, level, bits):
    """Refuse what is no list or tuple of data bits, some of which may be free."""
    if not is_row(bits) or len(bits) > data_bits(size, level):
        raise NoPattern(-1)
    for at, bit in enumerate(bits):
        if bit is not None and not is_bit(bit):
            raise NoPattern(at)


def need_question(size, level, mask, wish, bits):
    """Refuse what is no size, level, mask, wish or pattern."""
    need_size(size)
    need_level(level)
    need_mask(mask)
    need_wish(size, wish)
    need_pattern(size, level, bits)


def need_dots(size, dots):
    """Refuse what is no list or tuple of different dots of a size."""
    if not is_row(dots):
        raise NoDots(-1)
    seen = set()
    for at, dot in enumerate(dots):
        if not is_dot(dot, SIDES[size - 1]) or dot in seen:
            raise NoDots(at)
        seen.add(dot)


def drawing(size, level, mask, wish, *, bits=()):
    """Data words that draw a wish with a pattern, or a clash that shows that there are none."""
    need_question(size, level, mask, wish, bits)
    return Wish(size, level, wish, bits).answer(mask)


def need_answer(answer):
    """Refuse what does not begin as what drawing tells."""
    if isinstance(answer, tuple) and answer and isinstance(answer[0], str):
        if answer[0] == "data" and len(answer) == 2:
            return
        if answer[0] == "clash" and len(answer) == 3:
            return
    raise NoAnswer("answer", -1)


def check_data(size, level, mask, wish, bits, data):
    """Refuse what are no data words that draw a wish with a pattern."""
    if not is_row(data) or len(data) != data_count(size, level):
        raise NoAnswer("data", -1)
    for at, word in enumerate(data):
        if not is_word(WORD_BITS[size - 1], word):
            raise NoAnswer("data", at)
    for at, (bit, wanted) in enumerate(zip(words_as_bits(data, WORD_BITS[size - 1]), bits)):
        if wanted is not None and bit != wanted:
            raise NoAnswer("bits", at)
    grid = symbol_of(size, level, mask, data)
    for at, (row, column) in enumerate(sorted(wish)):
        if grid[row][column] != wish[row, column]:
            raise NoAnswer("wish", at)


def need_clash_dots(size, wish, dots):
    """Refuse what is no list or tuple of different dots of a wish."""
    if not is_row(dots):
        raise NoAnswer("dots", -1)
    seen = set()
    for at, dot in enumerate(dots):
        if not is_dot(dot, SIDES[size - 1]) or dot not in wish or dot in seen:
            raise NoAnswer("dots", at)
        seen.add(dot)


def need_clash_indexes(bits, indexes):
    """Refuse what is no list or tuple of different indexes of told bits of a pattern."""
    if not is_row(indexes):
        raise NoAnswer("indexes", -1)
    seen = set()
    for at, index in enumerate(indexes):
        if not is_number_to(index, 0, len(bits) - 1) or bits[index] is None or index in seen:
            raise NoAnswer("indexes", at)
        seen.add(index)


def is_same_sum(frame, dots, indexes):
    """Whether the sum of some dots and data bits is the same in all symbols of a mask."""
    told = {index: True for index in indexes}
    at = 0
    for block, asked in enumerate(frame.bits_of(dots)):
        for unit in frame.units(block):
            if (ones(unit & asked) + (at in told)) & 1:
                return False
            at += 1
    return True


def check_clash(size, level, mask, wish, bits, answer):
    """Refuse what is no list of dots and list of indexes whose sum is never as in a wish and a pattern."""
    _, dots, indexes = answer
    need_clash_dots(size, wish, dots)
    need_clash_indexes(bits, indexes)
    if not is_same_sum(Frame(size, level), dots, indexes):
        raise NoAnswer("free", -1)
    # Where the sum is always the same, the symbol of the data words 0 tells it.
    grid = symbol_of(size, level, mask, (0,) * data_count(size, level))
    unlike = [grid[row][column] ^ wish[row, column] for row, column in dots] + [bits[index] for index in indexes]
    if sum(unlike) & 1 == 0:
        raise NoAnswer("even", -1)


def check_drawing(size, level, mask, wish, answer, *, bits=()):
    """Refuse what is neither data words that draw a wish with a pattern nor a clash."""
    need_question(size, level, mask, wish, bits)
    need_answer(answer)
    if answer[0] == "data":
        check_data(size, level, mask, wish, bits, answer[1])
    else:
        check_clash(size, level, mask, wish, bits, answer)


def ways_to_draw(size, level, mask, wish, *, bits=()):
    """How many rows of data words draw a wish with a pattern."""
    need_question(size, level, mask, wish, bits)
    asked = Wish(size, level, wish, bits)
    return asked.ways() if asked.answer(mask)[0] == "data" else 0


def sure_dots(size, level, mask, wish, *, bits=()):
    """The dict from all dots, ascending, that are the same in all symbols that draw a wish; None if there are none."""
    need_question(size, level, mask, wish, bits)
    asked = Wish(size, level, wish, bits)
    answer = asked.answer(mask)
    if answer[0] == "clash":
        return None
    grid = symbol_of(size, level, mask, answer[1])
    # No border or format dot is open.
    are_open = asked.open_bits() + [0] * (2 * STRIP + 2)
    return {(row, column): grid[row][column] for row, places in enumerate(PLACES[size - 1])
            for column, place in enumerate(places) if not are_open[place]}


def masks_for(size, level, wish, *, bits=()):
    """The ascending list of the masks under which a wish can be drawn with a pattern."""
    need_size(size)
    need_level(level)
    need_wish(size, wish)
    need_pattern(size, level, bits)
    asked = Wish(size, level, wish, bits)
    return [mask for mask in range(MASKS) if asked.answer(mask)[0] == "data"]


class Freedom:
    """The dots that are free with those ahead of them, taken one by one."""

    def __init__(self, size, level):
        self.frame = Frame(size, level)
        self.spans = [Span(self.frame.units(block)) for block in range(len(self.frame.places))]

    def take(self, dot):
        """Whether a dot is free with those that were taken ahead of it."""
        spot = self.frame.bit_of(dot)
        return spot is not None and self.spans[spot[0]].take(spot[1])

    def tied_dots(self, dot):
        """The ascending list of a dot that is not free and of those ahead of it to which it is tied."""
        spot = self.frame.bit_of(dot)
        if spot is None:
            return [dot]
        block, bit = spot
        return sorted([self.frame.dot_of(block, place) for place in places_set(self.spans[block].tie(bit))])


def free_list(size, level, dots):
    """The list of the dots, in their order, that are free with those ahead of them."""
    freedom = Freedom(size, level)
    return [dot for dot in dots if freedom.take(dot)]


def free_dots(size, level, dots):
    """The list of the dots, in their order, that are free with those ahead of them."""
    need_size(size)
    need_level(level)
    need_dots(size, dots)
    return free_list(size, level, dots)


def rank_of(size, level, dots):
    """How many of some dots are free together."""
    need_size(size)
    need_level(level)
    need_dots(size, dots)
    return len(free_list(size, level, dots))


def tied(size, level, dots):
    """The ascending list of dots, up to the first that is not free, whose sum is always the same; None if all are."""
    need_size(size)
    need_level(level)
    need_dots(size, dots)
    freedom = Freedom(size, level)
    for dot in dots:
        if not freedom.take(dot):
            return freedom.tied_dots(dot)
    return None


def text_pattern(text, size, level):
    """The list of the data bits that a text needs: those of its best pieces, and the end if two bits are left."""
    need_text(text)
    need_size(size)
    need_level(level)
    return pattern_of_text(text, size, level)


def text_drawings(text, size, level, wish):
    """The list of what drawing tells for each mask, with the pattern of a text."""
    need_text(text)
    need_size(size)
    need_level(level)
    bits = pattern_of_text(text, size, level)
    need_wish(size, wish)
    asked = Wish(size, level, wish, bits)
    return [asked.answer(mask) for mask in range(MASKS)]
