"""Finding the right row that a row with gaps and lying words comes from.

A row is told by its sums, the values at the powers of 2 that a right row makes 0. Each wrong word adds
to them a share that grows by the word's place, a power of 2, from one sum to the next.
"""

from dotquilts.fields import value_at


def sums_of(field, many, start, row):
    """The values of a row at the powers of 2 where a right row is 0."""
    return [value_at(field, row, field.two_to(start + step)) for step in range(many)]


def without_place(field, sums, place):
    """The sums with the share of one place taken out; the first sum is used up by it."""
    return [sums[at + 1] ^ field.times(sums[at], place) for at in range(len(sums) - 1)]


def heads_and_rest(field, sums, places):
    """The first of the sums ahead of each place that is taken out, and the sums behind all of them."""
    heads = []
    for place in places:
        heads.append(sums[0])
        sums = without_place(field, sums, place)
    return heads, sums


def corrected(field, rule, last, shift, factor):
    """The rule, plus factor times the last one, moved back by shift."""
    found = rule + [0] * max(len(last) + shift - len(rule), 0)
    for at, word in enumerate(last):
        found[at + shift] ^= field.times(factor, word)
    return found


def shortest_rule(field, sums):
    """The shortest polynomial whose roots, other than 0, can be the places that the sums come from.

    This is the way of Berlekamp and Massey: each sum that the rule foretells falsely mends it by the
    rule that held before the last time that it grew.
    """
    rule, last, length, shift, divisor = [1], [1], 0, 1, 1
    for at in range(len(sums)):
        miss = 0
        for back in range(min(len(rule), at + 1)):
            miss ^= field.times(rule[back], sums[at - back])
        if miss == 0:
            shift += 1
            continue
        mended = corrected(field, rule, last, shift, field.over(miss, divisor))
        if 2 * length <= at:
            length, last, divisor, shift = at + 1 - length, rule, miss, 0
        rule = mended
        shift += 1
    return rule


def wrong_words(field, places, heads):
    """What the words at the places differ by, times their powers at the start, from the heads of their sums."""
    shares = []
    for own in range(len(places) - 1, -1, -1):
        later = places[own + 1:]
        shares = [field.over(share, place ^ places[own]) for share, place in zip(shares, later)]
        rest = heads[own]
        for share in shares:
            rest ^= share
        shares = [rest] + shares
    return shares


def mended_row(field, start, row, sums):
    """The right row within the bound and the indexes of the words that lie; None if there is no such row.

    The sums are those of the row with 0 in its gaps, as many as there are check words.
    """
    gaps = [at for at, word in enumerate(row) if word is None]
    if len(gaps) > len(sums):
        return None
    places = [field.two_to(len(row) - 1 - at) for at in range(len(row))]
    heads, sums = heads_and_rest(field, sums, [places[at] for at in gaps])
    rule = shortest_rule(field, sums)
    lying = [at for at, word in enumerate(row) if word is not None and value_at(field, rule, places[at]) == 0]
    if 2 * len(lying) > len(sums):
        return None
    more, rest = heads_and_rest(field, sums, [places[at] for at in lying])
    # Sums that are left over come from words elsewhere: then the lying words are more than can be told.
    if any(rest):
        return None
    found = [0 if word is None else word for word in row]
    wrong = gaps + lying
    for at, share in zip(wrong, wrong_words(field, [places[at] for at in wrong], heads + more)):
        found[at] ^= field.over(share, field.two_to((len(row) - 1 - at) * start))
    return found, tuple(lying)


def repaired_row(field, many, start, row):
    """The right row within the bound and the indexes of the words that lie; None if there is no such row."""
    known = [0 if word is None else word for word in row]
    return mended_row(field, start, row, sums_of(field, many, start, known))
