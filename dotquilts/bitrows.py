"""Numbers as rows of bits, the highest bit first, and back."""

# The words of 4 bits as rows of bits, and back.
QUADS = (
    (0, 0, 0, 0), (0, 0, 0, 1), (0, 0, 1, 0), (0, 0, 1, 1), (0, 1, 0, 0), (0, 1, 0, 1), (0, 1, 1, 0), (0, 1, 1, 1),
    (1, 0, 0, 0), (1, 0, 0, 1), (1, 0, 1, 0), (1, 0, 1, 1), (1, 1, 0, 0), (1, 1, 0, 1), (1, 1, 1, 0), (1, 1, 1, 1),
)
QUAD_WORDS = {
    (0, 0, 0, 0): 0, (0, 0, 0, 1): 1, (0, 0, 1, 0): 2, (0, 0, 1, 1): 3,
    (0, 1, 0, 0): 4, (0, 1, 0, 1): 5, (0, 1, 1, 0): 6, (0, 1, 1, 1): 7,
    (1, 0, 0, 0): 8, (1, 0, 0, 1): 9, (1, 0, 1, 0): 10, (1, 0, 1, 1): 11,
    (1, 1, 0, 0): 12, (1, 1, 0, 1): 13, (1, 1, 1, 0): 14, (1, 1, 1, 1): 15,
}


def as_bits(number, many):
    """The list of so many bits of a number."""
    return [number >> place & 1 for place in range(many - 1, -1, -1)]


def as_number(bits):
    """The number that bits are."""
    number = 0
    for bit in bits:
        number = 2 * number + bit
    return number


def words_as_bits(words, many):
    """The list of the bits of words, of which each has so many, 4 or 8."""
    if many == 4:
        return [bit for word in words for bit in QUADS[word]]
    return [bit for word in words for bit in QUADS[word >> 4] + QUADS[word & 15]]


def bits_as_words(bits, many):
    """The list of the words that bits are, of which each has so many, 4 or 8; None for one with a bit that is None."""
    quads = [QUAD_WORDS.get(quad) for quad in zip(bits[0::4], bits[1::4], bits[2::4], bits[3::4])]
    if many == 4:
        return quads
    return [None if high is None or low is None else high << 4 | low for high, low in zip(quads[0::2], quads[1::2])]


def words_as_number(words, many):
    """The number that words are, of which each has so many bits."""
    number = 0
    for word in words:
        number = number << many | word
    return number


def number_as_words(number, many, bits):
    """The list of so many words of a number, of which each has so many bits."""
    last = (1 << bits) - 1
    return [number >> bits * place & last for place in range(many - 1, -1, -1)]


def ones(number):
    """How many bits of a number from 0 on are set."""
    text = f"{number:b}"
    return text.count("1")


def places_set(number):
    """The ascending list of the places of the bits of a number that are set, the lowest bit being at 0."""
    text = f"{number:b}"[::-1]
    found = []
    at = text.find("1")
    while at >= 0:
        found.append(at)
        at = text.find("1", at + 1)
    return found
