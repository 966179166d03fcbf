"""Words of 4 or 8 bits, which are a field, and polynomials over them."""

from dotquilts.checks import are_plain_words, is_number, is_number_to, is_row
from dotquilts.errors import NoField, NoWord
from dotquilts.powers import EXPONENTS, POWERS

# How many words there are, and what folds a double that is too great back.
SPANS = {4: 16, 8: 256}
FOLDS = {4: 9, 8: 113}


class Field:
    """All words of so many bits, for many products at a time."""

    def __init__(self, bits):
        self.bits = bits
        self.span = SPANS[bits]
        self.turn = self.span - 1
        # Twice, so that the sum of two exponents needs no division.
        self.powers = POWERS[bits] * 2
        self.exponents = EXPONENTS[bits]

    def two_to(self, times):
        """The power of the word 2."""
        return self.powers[times % self.turn]

    def times(self, one, other):
        """The product of two words."""
        if one == 0 or other == 0:
            return 0
        return self.powers[self.exponents[one] + self.exponents[other]]

    def over(self, one, other):
        """The word whose product with other, which is not 0, is one."""
        if one == 0:
            return 0
        return self.powers[self.exponents[one] - self.exponents[other] + self.turn]

    def multiple(self, words, factor):
        """The list of the products of words with one word."""
        if factor == 0:
            return [0] * len(words)
        powers = self.powers
        exponents = self.exponents
        shift = exponents[factor]
        return [powers[exponents[word] + shift] if word else 0 for word in words]


def doubled(bits, one):
    """The double of a word."""
    twice = 2 * one
    if twice < SPANS[bits]:
        return twice
    return (twice - SPANS[bits]) ^ FOLDS[bits]


def word_product(bits, one, other):
    """The product of two words, by doubling."""
    total = 0
    while other > 0:
        if other & 1:
            total ^= one
        one = doubled(bits, one)
        other >>= 1
    return total


def word_power(bits, one, times):
    """The power of a word for times from 0 on, by squaring."""
    total = 1
    while times > 0:
        if times & 1:
            total = word_product(bits, total, one)
        one = word_product(bits, one, one)
        times >>= 1
    return total


def is_word(bits, thing):
    """Whether a value is a word of 4 or 8 bits."""
    return is_number_to(thing, 0, SPANS[bits] - 1)


def need_field(bits):
    """Refuse what is neither 4 nor 8."""
    if not is_number(bits) or bits not in SPANS:
        raise NoField(bits)


def need_word(bits, part, thing):
    """Refuse what is no word."""
    if not is_word(bits, thing):
        raise NoWord(part, -1)


def need_words(bits, part, words):
    """Refuse a row with an item that is no word."""
    if are_plain_words(bits, words):
        return
    for at, word in enumerate(words):
        if not is_word(bits, word):
            raise NoWord(part, at)


def need_polynomial(bits, part, words):
    """Refuse what is no list or tuple of words."""
    if not is_row(words):
        raise NoWord(part, -1)
    need_words(bits, part, words)


def product(bits, one, other):
    """The product of two words."""
    need_field(bits)
    need_word(bits, "one", one)
    need_word(bits, "other", other)
    return word_product(bits, one, other)


def quotient(bits, one, other):
    """The word whose product with other is one."""
    need_field(bits)
    need_word(bits, "one", one)
    need_word(bits, "other", other)
    if other == 0:
        raise NoWord("other", -1)
    # A power that ends one step ahead of the whole turn is the word's quotient from 1.
    return word_product(bits, one, word_power(bits, other, SPANS[bits] - 2))


def power(bits, one, times):
    """The product of as many times one; for times below 0 its quotient from 1."""
    need_field(bits)
    need_word(bits, "one", one)
    if not is_number(times) or (times < 0 and one == 0):
        raise NoWord("times", -1)
    if one == 0:
        return 1 if times == 0 else 0
    return word_power(bits, one, times % (SPANS[bits] - 1))


def exponent(bits, one):
    """The least integer from 0 on to which power 2 is one."""
    need_field(bits)
    need_word(bits, "one", one)
    if one == 0:
        raise NoWord("one", -1)
    return EXPONENTS[bits][one]


def value_at(field, words, at):
    """The value of a polynomial at a word."""
    if at == 0:
        return words[-1] if words else 0
    powers = field.powers
    exponents = field.exponents
    shift = exponents[at]
    total = 0
    for word in words:
        total = powers[exponents[total] + shift] ^ word if total else word
    return total


def all_products(field, one, other):
    """The product of two polynomials."""
    if not one or not other:
        return []
    total = [0] * (len(one) + len(other) - 1)
    for shift, factor in enumerate(one):
        for at, word in enumerate(field.multiple(other, factor)):
            total[shift + at] ^= word
    return total


def long_division(field, words, other):
    """The quotient and the remainder of two polynomials, of which other does not begin with 0."""
    rest = list(words)
    steps = max(len(words) - len(other) + 1, 0)
    for shift in range(steps):
        rest[shift] = field.over(rest[shift], other[0])
        for at, word in enumerate(field.multiple(other[1:], rest[shift])):
            rest[shift + 1 + at] ^= word
    return rest[:steps], rest[steps:]


def value(bits, words, at):
    """The sum of the words of a polynomial times the powers of at."""
    need_field(bits)
    need_polynomial(bits, "words", words)
    need_word(bits, "at", at)
    return value_at(Field(bits), words, at)


def poly_product(bits, one, other):
    """The product of two polynomials; [] if one of them has no words."""
    need_field(bits)
    need_polynomial(bits, "one", one)
    need_polynomial(bits, "other", other)
    return all_products(Field(bits), one, other)


def divided(bits, words, other):
    """The tuple of the quotient and the remainder of words by other."""
    need_field(bits)
    need_polynomial(bits, "words", words)
    need_polynomial(bits, "other", other)
    if not other or other[0] == 0:
        raise NoWord("other", 0)
    return long_division(Field(bits), words, other)
