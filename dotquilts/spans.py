"""Spans: all sums of some rows of bits, each row being one large integer."""

from dotquilts.bitrows import ones


def independent(rows):
    """The list of the rows that are no sums of those ahead of them."""
    found = []
    reduced = []
    for row in rows:
        rest = row
        for other in reduced:
            # Less is what has not the highest bit of the other one; no later one brings it back.
            rest = min(rest, rest ^ other)
        if rest:
            found.append(row)
            reduced.append(rest)
    return found


class Span:
    """All sums of some rows, no sum of which is 0; fewer and fewer of them, as bits are taken to be 0."""

    def __init__(self, rows):
        self.rows = rows
        self.leads = []

    def take(self, bit):
        """Keep only the sums that are 0 at a bit; False if all of them are.

        The row that is left out leads there: with it each value of the bit can be had, and no bit that was taken
        ahead of this one changes.
        """
        having = [row for row in self.rows if row & bit]
        if not having:
            return False
        lead = having[0]
        self.rows = [row ^ lead if row & bit else row for row in self.rows if row != lead]
        self.leads.append((bit, lead))
        return True

    def tie(self, bit):
        """The bits, as one number, whose sum is 0 in all rows that there were at first: a bit and some that were taken.

        The bit is one at which all rows that are left are 0.
        """
        found = bit
        for taken, lead in reversed(self.leads):
            if ones(lead & found) & 1:
                found |= taken
        return found

    def reach(self):
        """All bits, as one number, at which the rows that are left are not all 0."""
        found = 0
        for row in self.rows:
            found |= row
        return found
