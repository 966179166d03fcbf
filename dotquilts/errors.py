"""All errors of the package, each with the values that it is about."""


class QuiltError(ValueError):
    """The base of all errors of the package."""


class NoField(QuiltError):
    """There is no field of words of so many bits."""

    def __init__(self, bits):
        self.bits = bits


class NoWord(QuiltError):
    """An argument, or its item at this index, is no word."""

    def __init__(self, part, index):
        self.part = part
        self.index = index


class NoSize(QuiltError):
    """A symbol has no such size."""

    def __init__(self, size):
        self.size = size


class NoLevel(QuiltError):
    """There is no such level."""

    def __init__(self, level):
        self.level = level


class NoMask(QuiltError):
    """There is no such mask."""

    def __init__(self, mask):
        self.mask = mask


class NoDot(QuiltError):
    """The size has no such dot."""

    def __init__(self, dot):
        self.dot = dot


class NoIndex(QuiltError):
    """The size has no word of this index."""

    def __init__(self, index):
        self.index = index


class NoWords(QuiltError):
    """The words of a symbol, or the one at this index, are none."""

    def __init__(self, index):
        self.index = index


class NoBlock(QuiltError):
    """A block, or its word at this index, is none."""

    def __init__(self, block, index):
        self.block = block
        self.index = index


class NoGrid(QuiltError):
    """A grid, its row, or its dot at this place is none."""

    def __init__(self, row, column):
        self.row = row
        self.column = column


class NoCode(QuiltError):
    """There is no such code."""

    def __init__(self, code):
        self.code = code


class NoNumber(QuiltError):
    """An argument is no number that is allowed there."""

    def __init__(self, part):
        self.part = part


class TooLarge(QuiltError):
    """There are more bits or dots than this limit allows."""

    def __init__(self, limit):
        self.limit = limit


class NoWish(QuiltError):
    """A wish is none, or it wishes nothing possible of this dot."""

    def __init__(self, dot):
        self.dot = dot


class NoDots(QuiltError):
    """A row of dots, or its item at this index, is none."""

    def __init__(self, index):
        self.index = index


class NoPattern(QuiltError):
    """A pattern, or its item at this index, is none."""

    def __init__(self, index):
        self.index = index


class NoAnswer(QuiltError):
    """A part of an answer, at this index, does not hold."""

    def __init__(self, part, index):
        self.part = part
        self.index = index


class NoPicture(QuiltError):
    """A text is no picture of a grid from this line on."""

    def __init__(self, line):
        self.line = line


class NoChange(QuiltError):
    """A desk cannot do this change."""

    def __init__(self, word):
        self.word = word


class NoText(QuiltError):
    """A text, or its character at this index, is none."""

    def __init__(self, index):
        self.index = index


class NoPieces(QuiltError):
    """A row of pieces, or its item at this index, is none."""

    def __init__(self, index):
        self.index = index


class NoBits(QuiltError):
    """A row of bits, or its item at this index, is none."""

    def __init__(self, index):
        self.index = index


class Unread(QuiltError):
    """Bits cannot be read from this place on, for this reason."""

    def __init__(self, at, why):
        self.at = at
        self.why = why


class TooLong(QuiltError):
    """A text needs so many bits more than there is room for."""

    def __init__(self, bits):
        self.bits = bits


class NoSeries(QuiltError):
    """Rows are no series, for this reason, which these numbers show."""

    def __init__(self, why, numbers):
        self.why = why
        self.numbers = numbers


class NoParts(QuiltError):
    """The parts of a text, or the one at this index, are none."""

    def __init__(self, which, index):
        self.which = which
        self.index = index


class NoFormat(QuiltError):
    """An argument is no format."""

    def __init__(self, part):
        self.part = part


class NoStain(QuiltError):
    """A stain, or its item at this index, is none."""

    def __init__(self, part, index):
        self.part = part
        self.index = index


class NoKind(QuiltError):
    """There is no such kind of harm to dots."""

    def __init__(self, kind):
        self.kind = kind


class NoPaper(QuiltError):
    """A part of a paper does not hold."""

    def __init__(self, part):
        self.part = part


class Unmended(QuiltError):
    """The format, or the block of this index, cannot be repaired."""

    def __init__(self, part, index):
        self.part = part
        self.index = index


class NoPose(QuiltError):
    """There is no such pose."""

    def __init__(self, pose):
        self.pose = pose


class NoPlace(QuiltError):
    """The picture has no such place."""

    def __init__(self, place):
        self.place = place
