"""Numbers as rows of bits, the highest bit first, and back."""


def as_bits(number, many):
    """The list of so many bits of a number."""
    return [number >> place & 1 for place in range(many - 1, -1, -1)]


def as_number(bits):
    """The number that bits are."""
    number = 0
    for bit in bits:
        number = 2 * number + bit
    return number


def words_as_bits(words, many):
    """The list of the bits of words, of which each has so many."""
    places = range(many - 1, -1, -1)
    return [word >> place & 1 for word in words for place in places]


def bits_as_words(bits, many):
    """The list of the words that bits are, of which each has so many; None for a word with a bit that is None."""
    parts = [bits[at:at + many] for at in range(0, len(bits), many)]
    return [None if None in part else as_number(part) for part in parts]


def ones(number):
    """How many bits of a number from 0 on are set."""
    text = f"{number:b}"
    return text.count("1")
