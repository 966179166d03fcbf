"""The bits of all sums of some rows, counted for all sums at a time.

A row is one large integer, and a sum of rows is told by an INDEX: its highest bit tells whether the first row is
among them, its lowest one whether the last row is. A TABLE is one large integer with a bit for each index. Tables are
added up in SLICES, of which the first one has the lowest bits of all numbers, the next one the next ones, and so on.
"""

from dotquilts.bitrows import ones

FEW_BITS = 1024


def every_index(rows):
    """The table that has all sums of some rows."""
    return (1 << (1 << len(rows))) - 1


def table_at(signs):
    """The table of the sums in which a bit is set, told by a sign, 1 or 0, for each row that has it or not."""
    table = 0
    many = 1
    for sign in reversed(signs):
        # Whatever is told of the rows behind is told the other way round of those with one more row that has the bit.
        table |= (table ^ (1 << many) - 1 if sign == "1" else table) << many
        many *= 2
    return table


def tables_of(rows, many, added, asked):
    """The list of the tables of those of so many bits that are asked for, with a number added to all sums."""
    every = every_index(rows)
    # One bit more at the front, so that no row loses its zeros there.
    texts = [f"{row | 1 << many:b}" for row in rows]
    columns = list(zip(*texts))
    found = []
    for step, signs in enumerate(columns[1:]):
        bit = 1 << many - 1 - step
        if asked & bit:
            found.append(table_at(signs) ^ (every if added & bit else 0))
    return found


def sliced_sum(tables):
    """The slices of how many of the tables have each index."""
    slices = []
    left = list(tables)
    while left:
        carried = []
        while len(left) > 2:
            one, other, more = left.pop(), left.pop(), left.pop()
            unlike = one ^ other
            carried.append(one & other | unlike & more)
            left.append(unlike ^ more)
        if len(left) == 2:
            one, other = left
            carried.append(one & other)
            left = [one ^ other]
        slices.append(left[0])
        left = carried
    return slices


def least_in(slices, among):
    """The least number that an index of a table has, and the table of those that have it."""
    number = 0
    for place in range(len(slices) - 1, -1, -1):
        low = among ^ among & slices[place]
        if low:
            among = low
        else:
            number |= 1 << place
    return number, among


def many_ones(table, masks):
    """How many bits of a table are set; the masks are those of all pairs, fours, eights and sixteens of bits."""
    pairs, fours, eights, sixteens = masks
    table -= table >> 1 & pairs
    table = (table & fours) + (table >> 2 & fours)
    table = table + (table >> 4) & eights
    table = table + (table >> 8) & sixteens
    return table % 65535


def counts_in(slices, many):
    """The dict from the numbers that the slices tell to how many of so many indexes have them."""
    parts = [(0, (1 << many) - 1)]
    for place in range(len(slices) - 1, -1, -1):
        halves = [(number, among & slices[place], among) for number, among in parts]
        parts = [(number | 1 << place, high) for number, high, _ in halves if high]
        parts = parts + [(number, high ^ among) for number, high, among in halves if high != among]
    if many <= FEW_BITS:
        return {number: ones(among) for number, among in parts}
    # In halves, as neither of them has as many bits as the remainder that counts them could not tell.
    half = many // 2
    masks = [int(signs * (half // 16), 16) for signs in ("5555", "3333", "0f0f", "00ff")]
    last = (1 << half) - 1
    return {number: many_ones(among >> half, masks) + many_ones(among & last, masks) for number, among in parts}
