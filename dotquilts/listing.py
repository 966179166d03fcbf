"""Listing the right rows that are near to a row."""

from dotquilts.making import unit_rows


def all_rows(field, units):
    """All right rows, ascending.

    Place by place it is told what stands there in all of them. From the last data word to the first, each bit
    that is set in it adds the same at a place to all rows that there are so far.
    """
    columns = [[0] for _ in units[-1]]
    for unit in reversed(units):
        for bit in range(field.bits):
            shares = field.multiple(unit, 1 << bit)
            columns = [column + [share ^ word for word in column] if share else column + column
                       for column, share in zip(columns, shares)]
    return [list(row) for row in zip(*columns)]


def words_left(field, told, spare):
    """The words that may stand where one is told, and how many others may be unlike then."""
    if told is None:
        return [(word, spare) for word in range(field.span)]
    if spare == 0:
        return [(told, 0)]
    return [(word, spare if word == told else spare - 1) for word in range(field.span)]


def heads_near(field, units, row, most):
    """The right rows with 0 as the last data word that are near enough in those ahead of it.

    Each is a tuple with the number of words that may still be unlike, from the last data word on.
    """
    heads = [([0] * len(row), most)]
    for unit, told in zip(units[:-1], row):
        words = [told] if told is not None and most == 0 else list(range(field.span))
        shares = {word: field.multiple(unit, word) for word in words}
        heads = [([one ^ other for one, other in zip(head, shares[word])], left)
                 for head, spare in heads for word, left in words_left(field, told, spare)]
    return heads


def known_places(field, last, row, at):
    """The places from one on that are no gaps: each with its word, and what leads to its quotients by the last unit.

    From the last data word on no word of this unit is 0; so each place is right with just one last data word.
    """
    return [(place, row[place], field.turn - field.exponents[last[place]])
            for place in range(at, len(row)) if row[place] is not None]


def wanted_words(field, known, head):
    """For each known place the last data word with which it is as it is told."""
    powers = field.powers
    exponents = field.exponents
    return [powers[exponents[word ^ head[place]] + shift] if word != head[place] else 0
            for place, word, shift in known]


def last_words(field, wanted, spare):
    """The last data words with which at most so many places are not as they are told.

    If all but `spare` places want the same word, one of the first `spare` + 1 does.
    """
    if spare >= len(wanted):
        return list(range(field.span))
    need = len(wanted) - spare
    return [word for word in sorted(set(wanted[:spare + 1])) if wanted.count(word) >= need]


def rows_near(field, many, start, row, most):
    """All right rows, ascending, that differ from a row in at most so many words other than gaps."""
    data = len(row) - many
    units = unit_rows(field, many, start, data)
    if most >= len(row) - row.count(None):
        return all_rows(field, units)
    last = units[-1]
    known = known_places(field, last, row, data - 1)
    found = []
    shares = {}
    for head, spare in heads_near(field, units, row, most):
        for word in last_words(field, wanted_words(field, known, head), spare):
            if word not in shares:
                shares[word] = field.multiple(last, word)
            found.append([one ^ other for one, other in zip(head, shares[word])])
    return found
