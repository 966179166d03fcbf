"""Rows of words with check words: which are right, how they are repaired, and how many there are."""

from dotquilts.checks import is_number, is_number_to, is_row
from dotquilts.counting import outcome_counts, weight_count
from dotquilts.errors import NoCode, NoNumber, NoWord, TooLarge
from dotquilts.fields import SPANS, Field, is_word, need_words
from dotquilts.listing import rows_near
from dotquilts.making import with_checks
from dotquilts.repairing import repaired_row, sums_of

MOST_CHECKS = {4: 14, 8: 40}
MOST_LISTED = 12


def is_code(code):
    """Whether a value is a code."""
    if not isinstance(code, tuple) or len(code) != 3:
        return False
    bits, many, start = code
    if not is_number(bits) or bits not in MOST_CHECKS:
        return False
    return is_number_to(many, 1, MOST_CHECKS[bits]) and is_number_to(start, 0, SPANS[bits] - 2)


def need_code(code):
    """Refuse what is no code."""
    if not is_code(code):
        raise NoCode(code)


def most_words(bits):
    """How many words a row can have."""
    return SPANS[bits] - 1


def is_length(code, length):
    """Whether a value is a number of words that a row of a code can have."""
    bits, many, _ = code
    return is_number_to(length, many + 1, most_words(bits))


def is_right_row(code, length, row):
    """Whether a value is a list or tuple of so many words that are a right row."""
    bits, many, start = code
    if not is_row(row) or len(row) != length:
        return False
    if not all(is_word(bits, word) for word in row):
        return False
    return not any(sums_of(Field(bits), many, start, row))


def need_row(code, row):
    """Refuse what is no row of a code."""
    if not is_row(row) or not is_length(code, len(row)):
        raise NoWord("row", -1)
    need_words(code[0], "row", row)


def need_gapped_row(code, row):
    """Refuse what is no row of a code, with gaps or without."""
    if not is_row(row) or not is_length(code, len(row)):
        raise NoWord("row", -1)
    for at, word in enumerate(row):
        if word is not None and not is_word(code[0], word):
            raise NoWord("row", at)


def need_number(part, thing, least, most):
    """Refuse what is no integer from least to most."""
    if not is_number_to(thing, least, most):
        raise NoNumber(part)


def need_length(code, length):
    """Refuse what is no number of words of a row."""
    if not is_length(code, length):
        raise NoNumber("length")


def unlike_words(row, other):
    """In how many words other than gaps a row differs from another one."""
    return len([at for at, word in enumerate(row) if word is not None and word != other[at]])


def check_words(code, words):
    """The check words with which data words are a right row."""
    need_code(code)
    bits, many, start = code
    if not is_row(words) or not is_length(code, len(words) + many):
        raise NoWord("words", -1)
    need_words(bits, "words", words)
    return with_checks(Field(bits), many, start, words)[len(words):]


def syndromes(code, row):
    """The values of a row at the powers of 2 where right rows are 0."""
    need_code(code)
    need_row(code, row)
    bits, many, start = code
    return sums_of(Field(bits), many, start, row)


def is_right(code, row):
    """Whether a row is right."""
    return not any(syndromes(code, row))


def repaired(code, row):
    """The right row within the bound and the indexes of the words that were others; None if there is none."""
    need_code(code)
    need_gapped_row(code, row)
    bits, many, start = code
    return repaired_row(Field(bits), many, start, row)


def need_twins(code, length, lies, gaps):
    """Refuse what is no code, no length of its rows, or no number of their words."""
    need_code(code)
    need_length(code, length)
    need_number("lies", lies, 0, length)
    need_number("gaps", gaps, 0, length)


def twins(code, length, lies, gaps):
    """A row with gaps and two unlike right rows, each with at most `lies` other words; None if there are none."""
    need_twins(code, length, lies, gaps)
    bits, many, start = code
    if 2 * lies + gaps <= many:
        return None
    one = [0] * length
    other = with_checks(Field(bits), many, start, [0] * (length - many - 1) + [1])
    # The rows differ in the last many + 1 words alone: gaps hide these first, then either row lies at some.
    row = list(one)
    for at in range(length - gaps, length):
        row[at] = None
    for at in range(length - many - 1, min(length - many - 1 + lies, length - gaps)):
        row[at] = other[at]
    return row, one, other


def is_twins(code, length, lies, gaps, answer):
    """Whether a value is a row with so many gaps and two unlike right rows that are near enough to it."""
    need_twins(code, length, lies, gaps)
    if not isinstance(answer, tuple) or len(answer) != 3:
        return False
    row, one, other = answer
    if not is_row(row) or len(row) != length:
        return False
    known = [word for word in row if word is not None]
    if len(known) != length - gaps or not all(is_word(code[0], word) for word in known):
        return False
    for right in (one, other):
        if not is_right_row(code, length, right) or unlike_words(row, right) > lies:
            return False
    return list(one) != list(other)


def rows_within(code, row, most):
    """The ascending list of the right rows that differ from a row in at most so many words other than gaps."""
    need_code(code)
    need_gapped_row(code, row)
    if not is_number(most) or most < 0:
        raise NoNumber("most")
    bits, many, start = code
    if (len(row) - many) * bits > MOST_LISTED:
        raise TooLarge(MOST_LISTED)
    return rows_near(Field(bits), many, start, row, most)


def weights(code, length):
    """For each number from 0 to length, how many right rows have so many words other than 0."""
    need_code(code)
    need_length(code, length)
    bits, many, _ = code
    return [weight_count(SPANS[bits], many, length, number) for number in range(length + 1)]


def outcomes(code, length, wrong):
    """How many rows with so many wrong words are led back, led to another right row, or refused."""
    need_code(code)
    need_length(code, length)
    need_number("wrong", wrong, 0, length)
    bits, many, _ = code
    return outcome_counts(SPANS[bits], many, length, wrong)
