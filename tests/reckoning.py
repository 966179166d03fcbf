"""What the tests reckon by themselves, from the words of DOC.md, without the package."""

from itertools import combinations, product
from math import comb

SPANS = {4: 16, 8: 256}


def double(bits, word):
    twice = 2 * word
    if bits == 4:
        return twice if twice < 16 else (twice - 16) ^ 9
    return twice if twice < 256 else (twice - 256) ^ 113


def times(bits, one, other):
    """The product as point 5 tells it."""
    total = 0
    for bit in range(bits):
        if other & (1 << bit):
            total ^= one
        one = double(bits, one)
    return total


TABLES = {bits: [[times(bits, one, other) for other in range(SPANS[bits])] for one in range(SPANS[bits])]
          for bits in SPANS}


def turn_of_two(bits):
    words = [1]
    while len(words) < SPANS[bits] - 1:
        words.append(double(bits, words[-1]))
    return words


POWERS = {bits: turn_of_two(bits) for bits in SPANS}


def two_to(bits, exponent):
    return POWERS[bits][exponent % (SPANS[bits] - 1)]


def value(bits, words, at):
    """The sum of the words times the powers of at, power by power."""
    table = TABLES[bits]
    total, factor = 0, 1
    for word in reversed(words):
        total ^= table[word][factor]
        factor = table[factor][at]
    return total


def poly_product(bits, one, other):
    if not one or not other:
        return []
    total = [0] * (len(one) + len(other) - 1)
    for at, word in enumerate(one):
        for index, factor in enumerate(other):
            total[at + index] ^= TABLES[bits][word][factor]
    return total


def syndromes(code, row):
    bits, many, start = code
    return [value(bits, row, two_to(bits, exponent)) for exponent in range(start, start + many)]


def is_right(code, row):
    return not any(syndromes(code, row))


def added(row, other):
    return [one ^ two for one, two in zip(row, other)]


def multiple(bits, row, factor):
    return [TABLES[bits][word][factor] for word in row]


def right_rows(code, length):
    """All right rows, ascending: the products of all polynomials with the one that has just the roots."""
    bits, many, start = code
    roots = [1]
    for exponent in range(start, start + many):
        roots = poly_product(bits, roots, [1, two_to(bits, exponent)])
    return sorted(poly_product(bits, words, roots) for words in product(range(SPANS[bits]), repeat=length - many))


def unlike(row, other):
    """The indexes of the words, gaps aside, in which a row differs from another one."""
    return tuple(at for at, word in enumerate(row) if word is not None and word != other[at])


def gaps_of(row):
    return [at for at, word in enumerate(row) if word is None]


def nearest(code, row, rights):
    """What repaired is to tell of a row, by going through all right rows."""
    for right in rights:
        changed = unlike(row, right)
        if 2 * len(changed) + len(gaps_of(row)) <= code[1]:
            return list(right), changed
    return None


def replaced(row, places, words):
    changed = list(row)
    for place, word in zip(places, words):
        changed[place] = word
    return changed


def all_repairs(code, length):
    """The dict from all rows within the bound of a right row, tuples, to what repaired is to tell of them."""
    bits, many, _ = code
    found = {}
    for right in right_rows(code, length):
        for gaps in range(many + 1):
            for lost in combinations(range(length), gaps):
                row = replaced(right, lost, [None] * gaps)
                known = [at for at in range(length) if at not in lost]
                for lies in range((many - gaps) // 2 + 1):
                    for places in combinations(known, lies):
                        for changes in product(range(1, SPANS[bits]), repeat=lies):
                            words = [row[at] ^ change for at, change in zip(places, changes)]
                            found[tuple(replaced(row, places, words))] = (right, places)
    return found


def weights_by_places(span, many, length):
    """The counts of right rows: at each choice of places there are as many as any of them leave free."""
    full = []
    for places in range(length + 1):
        rows = span ** max(places - many, 0)
        full.append(rows - sum(comb(places, fewer) * full[fewer] for fewer in range(places)))
    return [comb(length, places) * rows for places, rows in enumerate(full)]


def are_twins(code, length, lies, gaps, answer):
    row, one, other = answer
    if not len(row) == len(one) == len(other) == length or len(gaps_of(row)) != gaps:
        return False
    if not is_right(code, one) or not is_right(code, other) or list(one) == list(other):
        return False
    return len(unlike(row, one)) <= lies and len(unlike(row, other)) <= lies
