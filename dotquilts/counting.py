"""Counts over all rows of a code, by the number of words other than 0.

A code has as many right rows for each choice of length - many words: any so many words of a right row
determine the others.
"""

from math import comb


def raised(base, times):
    """The product of as many times base."""
    total = 1
    for _ in range(times):
        total *= base
    return total


def weight_count(span, many, length, number):
    """How many right rows of a length have so many words other than 0."""
    return comb(length, number) * full_count(span, many, number)


def full_count(span, many, number):
    """How many right rows have words other than 0 at all of `number` places that are told, and nowhere else.

    From the right rows that are 0 at all other places those that are 0 at one more place are taken, those
    that are 0 at two more are put back, and so on by turns.
    """
    if number == 0:
        return 1
    total = 0
    rows = 1
    for zeros in range(number - many - 1, -1, -1):
        rows *= span
        choices = comb(number, zeros)
        # The row of words 0 alone stands in each of these counts, as often taken as put back.
        total += (rows - 1) * (choices if zeros % 2 == 0 else -choices)
    return total


def rows_beside(span, length, own, wrong, far):
    """How many rows with `wrong` words other than 0 differ in `far` words from one with `own` words other than 0."""
    total = 0
    for cleared in range(min(own, far) + 1):
        added = wrong - own + cleared
        changed = far - cleared - added
        if added < 0 or changed < 0:
            continue
        inside = comb(own, cleared) * comb(own - cleared, changed) * raised(span - 2, changed)
        total += inside * comb(length - own, added) * raised(span - 1, added)
    return total


def outcome_counts(span, many, length, wrong):
    """How many rows with `wrong` wrong words are led back, led to another right row, or refused."""
    total = comb(length, wrong) * raised(span - 1, wrong)
    bound = many // 2
    if wrong <= bound:
        return (total, 0, 0)
    other = 0
    for own in range(wrong - bound, min(wrong + bound, length) + 1):
        beside = sum([rows_beside(span, length, own, wrong, far) for far in range(bound + 1)])
        other += weight_count(span, many, length, own) * beside
    return (0, other, total - other)
