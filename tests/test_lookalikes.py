"""Point 42: what could be told of symbols by using all dots that are seen."""

import random

from dotquilts.stains import are_lookalikes, fitting_count, is_harmless, lookalikes
from tests import drawing, reckoning, summing, walking
from tests.asking import GREAT, Asking, no_rows, numbers_beyond, odd_values
from tests.test_stains import near_stain, random_data
from tests.walking import BITS, BLOCKS, DATA_BITS, LEVELS, PATHS, SIDES, SIZES

PLACES = [(size, level) for size in SIZES for level in LEVELS]
# All symbols of size 1: their words are those of one block, in their order.
ROWS = {level: reckoning.right_rows(drawing.code_of(1, level), 4) for level in LEVELS}
SHADES = {level: [summing.bits_of_words(1, row) for row in ROWS[level]] for level in LEVELS}


def alike_by_symbols(size, level, lost, one, other):
    """Whether two symbols of one mask differ in lost dots alone."""
    grids = [drawing.symbol_of(size, level, 5, list(data)) for data in (one, other)]
    return all(grids[0][row][column] == grids[1][row][column] for row, column in walking.all_dots(size)
               if (row, column) not in lost)


class SizeOne(Asking):

    def test_all_symbols(self):
        dice = random.Random(1)
        seen = set()
        for level in LEVELS:
            for _ in range(25 if level else 8):
                lost = dice.sample(walking.all_dots(1), dice.randrange(8, 65))
                known = [at for at, dot in enumerate(PATHS[1]) if dot not in lost]
                first = dice.choice(SHADES[level])
                fits = sum(all(first[at] == shades[at] for at in known) for shades in SHADES[level])
                self.assert_same(fitting_count(1, level, lost), fits)
                pair = lookalikes(1, level, lost)
                self.assertEqual(pair is None, fits == 1)
                seen.add(fits)
                if pair is not None:
                    self.check_pair(level, lost, pair)
        self.assertGreater(len(seen), 6)

    def check_pair(self, level, lost, pair):
        one, other = pair
        self.assertEqual([type(pair), type(one), type(other)], [tuple] * 3)
        self.assertNotEqual(one, other)
        self.assertTrue(alike_by_symbols(1, level, lost, one, other))
        self.assertIs(are_lookalikes(1, level, lost, pair), True)

    def test_all_pairs(self):
        dice = random.Random(2)
        for level in (2, 3):
            lost = dice.sample(PATHS[1], 13)
            for one in ROWS[level]:
                for other in ROWS[level]:
                    wanted = one != other and alike_by_symbols(1, level, lost, one[:1], other[:1])
                    self.assertIs(are_lookalikes(1, level, lost, (one[:1], tuple(other[:1]))), wanted)


class AllSizes(Asking):

    def test_by_sums_of_the_dots_that_are_seen(self):
        dice = random.Random(3)
        pairs = 0
        for size, level in PLACES * 2:
            if size == 5 and level < 2:
                continue
            lost = dice.sample(walking.all_dots(size), dice.randrange(SIDES[size] ** 2 // 2, SIDES[size] ** 2 + 1))
            fits = self.fits(size, level, lost)
            self.assert_same(fitting_count(size, level, lost), fits)
            pair = lookalikes(size, level, lost)
            self.assertEqual(pair is None, fits == 1)
            if pair is not None:
                pairs += 1
                self.assertTrue(alike_by_symbols(size, level, lost, *pair))
                self.assertIs(are_lookalikes(size, level, lost, pair), True)
        self.assertGreater(pairs, 10)

    def test_words_that_are_partly_lost(self):
        """One bit of each word of a block: read_words uses no word of it, and yet most can be told."""
        for size, level in PLACES:
            firsts = [drawing.word_dots(size, level, 0, at)[0] for at in range(BLOCKS[size][0])]
            self.assertFalse(is_harmless(size, level, firsts))
            if size < 5:
                self.assert_same(fitting_count(size, level, firsts), self.fits(size, level, firsts))
        self.assert_same(fitting_count(2, 3, [drawing.word_dots(2, 3, 0, at)[0] for at in range(10)]), 1)

    def fits(self, size, level, lost):
        sums = summing.Sums()
        for dot in walking.all_dots(size):
            if dot not in lost:
                sums.add(summing.vectors(size, level)[dot], 0)
        return 2 ** (DATA_BITS[size][level] - len(sums.leads))

    def test_harmless_stains_leave_one(self):
        dice = random.Random(4)
        for size, level in PLACES * 3:
            lost, _ = near_stain(size, level, dice)
            if is_harmless(size, level, lost):
                self.assertIsNone(lookalikes(size, level, lost))
                self.assert_same(fitting_count(size, level, lost), 1)

    def test_all_lost_and_none_lost(self):
        for size, level in PLACES:
            for lost in (PATHS[size], walking.all_dots(size), tuple(PATHS[size])):
                self.assert_same(fitting_count(size, level, lost), 2 ** DATA_BITS[size][level])
                one, other = lookalikes(size, level, lost)
                self.assertNotEqual(one, other)
            for lost in ((), [], sorted(walking.border(size)), drawing.FORMAT_DOTS[size]):
                self.assert_same(fitting_count(size, level, lost), 1)
                self.assertIsNone(lookalikes(size, level, lost))

    def test_any_values(self):
        dice = random.Random(5)
        for size, level in PLACES:
            lost = PATHS[size]
            one, other = random_data(size, level, dice), random_data(size, level, dice)
            other[0] = one[0] ^ 1
            for pair in ((one, other), (tuple(one), other), (one, tuple(other))):
                self.assertIs(are_lookalikes(size, level, lost, pair), True)
                self.assertIs(are_lookalikes(size, level, lost[1:], pair),
                              alike_by_symbols(size, level, lost[1:], one, other))
            for pair in ((one, one), (one, tuple(one)), (one, list(one)), [one, other], (one, other, other), (one,),
                         (one, other[1:]), (one + [0], other + [0]), {0: one, 1: other}, "ab", 0, GREAT):
                self.assertIs(are_lookalikes(size, level, lost, pair), False)
            for thing in odd_values():
                self.assertIs(are_lookalikes(size, level, lost, thing), False)
                if isinstance(thing, (list, tuple)) and len(thing) == len(one):
                    continue
                self.assertIs(are_lookalikes(size, level, lost, (thing, other)), False)
                self.assertIs(are_lookalikes(size, level, lost, (one, thing)), False)
            for thing in odd_values() + numbers_beyond(0, 2 ** BITS[size] - 1):
                self.assertIs(are_lookalikes(size, level, lost, (one, [thing] + other[1:])), False)
                self.assertIs(are_lookalikes(size, level, lost, (one[:-1] + [thing], other)), False)
        for thing in no_rows():
            self.assertIs(are_lookalikes(1, 3, PATHS[1], (thing, thing)), False)

    def test_examples_and_new_answers(self):
        self.assert_same(fitting_count(1, 3, PATHS[1]), 16)
        self.assert_asked_anew(lookalikes, 5, 0, PATHS[5][:300])
        self.assert_same(fitting_count(size=1, level=3, lost=PATHS[1]), 16)
        lost = list(PATHS[1])
        self.assertEqual(fitting_count(1, 3, lost), 16)
        lost.clear()
        self.assertEqual(fitting_count(1, 3, lost), 1)
