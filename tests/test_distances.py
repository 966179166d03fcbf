"""Points 54 to 57: distances in dots."""

import random
from itertools import combinations

from dotquilts.distances import dot_weights, least_unlike, lightest, nearest_rows, unlike_counts
from dotquilts.errors import NoCode, NoFormat, NoNumber, NoSize, NoWord, TooLarge
from tests import drawing, reckoning, summing, walking
from tests.asking import GREAT, Asking, no_rows, numbers_beyond, odd_values
from tests.drawing import FORMATS
from tests.test_stains import NO_SIZES, random_data
from tests.walking import BITS, BLOCKS, CHECKS, LEVELS, SIDES, SIZES, WORDS

# Codes with a length, of which all right rows can be gone through.
SHORT = [((4, 2, 0), 3), ((4, 1, 14), 2), ((4, 1, 3), 4), ((4, 3, 6), 5), ((4, 14, 5), 15), ((4, 6, 1), 8),
         ((8, 1, 254), 2), ((8, 4, 60), 5), ((8, 40, 7), 41)]
ROWS = {told: [list(row) for row in reckoning.right_rows(*told)] for told in SHORT}
NO_CODES = odd_values() + [(4, 0, 0), (4, 15, 0), (4, 1, 15), (8, 41, 0), (8, 1, 255), (5, 1, 0), [4, 2, 0], (4, 2)]


def bits_of(bits, row):
    return [int(bit) for word in row for bit in format(word, "b").zfill(bits)]


def weight(row):
    return sum(bin(word).count("1") for word in row)


def unlike(bits, row, dots):
    return sum(dot is not None and dot != bit for dot, bit in zip(dots, bits_of(bits, row)))


class Weights(Asking):

    def test_all_right_rows(self):
        for (code, length), rows in ROWS.items():
            weights = [weight(row) for row in rows]
            self.assert_same(dot_weights(code, length), [weights.count(many) for many in range(code[0] * length + 1)])

    def test_as_many_bits_as_can_be(self):
        for code, length in (((4, 1, 2), 5), ((4, 11, 14), 15), ((8, 1, 9), 3), ((8, 40, 254), 42)):
            counts = dot_weights(code, length)
            self.assertEqual(len(counts), code[0] * length + 1)
            self.assertEqual(sum(counts), 2 ** 16)
            self.assertEqual(counts[0], 1)
            # The greatest table by all rows: words that are sums of two words of one bit each.
            self.assertEqual(counts, self.by_halves(code, length))
            self.assertEqual([number for number, count in enumerate(counts) if count][1], lightest(code, length)[0])

    def by_halves(self, code, length):
        """By the sums of two lists of rows, as numbers, each of half of the bits."""
        bits, many, _ = code
        data = length - many
        halves = []
        for words in (range(data // 2), range(data // 2, data)):
            rows = [0]
            for at in words:
                for bit in range(bits):
                    unit = [0] * data
                    unit[at] = 1 << bit
                    row = drawing.right_row(code, unit)
                    number = int("".join(format(word, "b").zfill(bits) for word in row), 2)
                    rows += [one ^ number for one in rows]
            halves.append(rows)
        counts = [0] * (bits * length + 1)
        for one in halves[0]:
            for other in halves[1]:
                counts[(one ^ other).bit_count()] += 1
        return counts

    def test_errors(self):
        for thing in NO_CODES:
            self.assert_refused(NoCode, {"code": thing}, dot_weights, thing, None)
        for code, least, most in (((4, 2, 0), 3, 15), ((8, 40, 0), 41, 255), ((4, 14, 0), 15, 15)):
            for thing in odd_values() + numbers_beyond(least, most):
                self.assert_refused(NoNumber, {"part": "length"}, dot_weights, code, thing)
        for code, length in (((4, 2, 0), 7), ((4, 1, 0), 15), ((8, 3, 0), 6), ((8, 3, 0), 255)):
            self.assert_refused(TooLarge, {"limit": 16}, dot_weights, code, length)
        self.assertEqual(sum(dot_weights((4, 2, 0), 6)), 2 ** 16)
        self.assert_asked_anew(dot_weights, (4, 2, 0), 3)


class Lightest(Asking):

    def check(self, code, length, within, rows):
        places = range(length) if within is None else within
        fitting = [(weight(row), row) for row in rows
                   if any(row) and not any(word for at, word in enumerate(row) if at not in places)]
        told = lightest(code, length, within=within)
        if not fitting:
            self.assertIsNone(told)
            self.assertLessEqual(len(places), code[1])
        else:
            self.assert_same(told, min(fitting))
            self.assertGreater(len(places), code[1])

    def test_all_right_rows(self):
        dice = random.Random(1)
        for (code, length), rows in ROWS.items():
            self.check(code, length, None, rows)
            self.assert_same(lightest(code, length), lightest(code, length, within=tuple(range(length))))
            for _ in range(6):
                places = sorted(dice.sample(range(length), dice.randrange(length + 1)))
                self.check(code, length, dice.choice((list, tuple))(places), rows)

    def test_places_in_long_rows(self):
        """Right rows that are 0 elsewhere, found from the words at the first places."""
        dice = random.Random(2)
        for code, length, many in (((4, 5, 2), 15, 6), ((4, 5, 2), 15, 7), ((8, 6, 100), 200, 7), ((8, 2, 3), 255, 3),
                                   ((8, 12, 60), 22, 13)):
            bits, checks, _ = code
            places = sorted(dice.sample(range(length), many))
            rows = [[0] * length]
            for own in range(many - checks):
                unit = self.unit(code, length, places[own:own + 1] + places[many - checks:])
                rows = [reckoning.added(row, reckoning.multiple(bits, unit, word))
                        for row in rows for word in range(2 ** bits)]
            for row in rows[:20]:
                self.assertTrue(reckoning.is_right(code, row))
            self.assert_same(lightest(code, length, within=places), min((weight(row), row) for row in rows[1:]))

    def unit(self, code, length, places):
        """A right row that is 0 but at these places, and 1 at the first one, by taking away place by place."""
        bits, checks, start = code
        at = [reckoning.two_to(bits, length - 1 - place) for place in places]
        sums = []
        for step in range(checks):
            sums.append([reckoning.two_to(bits, (start + step) * (length - 1 - place)) for place in places])
        # Each of these sums must be 0: the first word is 1, the others are found by elimination.
        table = reckoning.TABLES[bits]
        for column in range(1, len(at)):
            pivot = [row for row in range(column - 1, checks) if sums[row][column]][0]
            sums[column - 1], sums[pivot] = sums[pivot], sums[column - 1]
            lead = table[sums[column - 1][column]].index(1)
            sums[column - 1] = [table[word][lead] for word in sums[column - 1]]
            for row in range(checks):
                if row != column - 1 and sums[row][column]:
                    factor = sums[row][column]
                    sums[row] = [one ^ table[two][factor] for one, two in zip(sums[row], sums[column - 1])]
        found = [0] * length
        found[places[0]] = 1
        for column in range(1, len(at)):
            found[places[column]] = sums[column - 1][0]
        return found

    def test_sixteen_bits_of_places(self):
        for code, length, places in (((8, 40, 3), 100, range(30, 72)), ((4, 9, 1), 15, range(1, 14))):
            number, row = lightest(code, length, within=list(places))
            self.assertTrue(reckoning.is_right(code, row))
            self.assertEqual(number, weight(row))
            self.assertFalse(any(word for at, word in enumerate(row) if at not in places))
            self.assertGreaterEqual(sum(map(bool, row)), code[1] + 1)

    def test_within(self):
        wrong = [0, "01", [0, 0], [1, 0], (0, 2, 1), [0, 3], [-1, 0], (0, True), [None], [[0]], (0, 1, 4)]
        for thing in no_rows() + wrong:
            if thing is not None:
                self.assert_refused(NoNumber, {"part": "within"}, lightest, (4, 2, 0), 3, within=thing)
        for thing in odd_values() + numbers_beyond(0, 14):
            self.assert_refused(NoNumber, {"part": "within"}, lightest, (4, 2, 0), 15, within=[0, thing])
        for within in ((), [], (0,), [1, 2]):
            self.assertIsNone(lightest((4, 2, 0), 15, within=within))

    def test_errors(self):
        for thing in NO_CODES:
            self.assert_refused(NoCode, {"code": thing}, lightest, thing, None, within=0)
        for thing in odd_values() + numbers_beyond(3, 15):
            self.assert_refused(NoNumber, {"part": "length"}, lightest, (4, 2, 0), thing, within=0)
        self.assert_refused(TooLarge, {"limit": 16}, lightest, (4, 2, 0), 7)
        self.assert_refused(TooLarge, {"limit": 16}, lightest, (4, 2, 0), 15, within=list(range(7)))
        self.assert_refused(TooLarge, {"limit": 16}, lightest, (8, 2, 0), 5)
        self.assert_refused(TooLarge, {"limit": 16}, lightest, (8, 2, 0), 255, within=(0, 1, 2, 3, 4))
        self.assertEqual(lightest((4, 2, 0), 15, within=range(6) and list(range(6)))[0], lightest((4, 2, 0), 6)[0])
        self.assert_asked_anew(lightest, (4, 2, 0), 15, within=[1, 4, 7])


class Nearest(Asking):

    def test_all_right_rows(self):
        dice = random.Random(3)
        ties = set()
        for (code, length), rows in ROWS.items():
            for share in (0, 0.1, 0.5, 0.9, 1):
                dots = [None if dice.random() < share else dice.randrange(2) for _ in range(code[0] * length)]
                counts = [unlike(code[0], row, dots) for row in rows]
                wanted = [row for row, count in zip(rows, counts) if count == min(counts)]
                self.assert_same(nearest_rows(code, dots), (min(counts), wanted))
                self.assert_same(nearest_rows(code, tuple(dots)), (min(counts), wanted))
                ties.add(len(wanted))
        self.assertGreater(len(ties), 5)
        self.assertIn(4096, ties)

    def test_as_many_bits_as_can_be(self):
        dice = random.Random(4)
        for code, length in (((4, 2, 0), 6), ((8, 40, 3), 42)):
            row = drawing.right_row(code, [dice.randrange(2 ** code[0]) for _ in range(length - code[1])])
            dots = bits_of(code[0], row)
            self.assert_same(nearest_rows(code, dots), (0, [row]))
            self.assert_same(nearest_rows(code, [1 - dots[0]] + dots[1:])[0], 1)
            number, rows = nearest_rows(code, [None] * (code[0] * length))
            self.assertEqual([number, len(rows)], [0, 2 ** 16])
            self.assertEqual(rows, sorted(rows))
            self.assertTrue(all(reckoning.is_right(code, rows[at]) for at in (0, 1, 2, 999, 2 ** 16 - 1)))

    def test_errors(self):
        for thing in NO_CODES:
            self.assert_refused(NoCode, {"code": thing}, nearest_rows, thing, None)
        for code in ((4, 2, 0), (8, 3, 1)):
            bits, many, _ = code
            lengths = [0, 1, bits * many, bits * (many + 1) - 1, bits * (many + 1) + 1, bits * (2 ** bits - 1) + bits]
            for thing in no_rows() + [0, GREAT, "0" * 12] + [[0] * length for length in lengths]:
                self.assert_refused(NoWord, {"part": "dots", "index": -1}, nearest_rows, code, thing)
            for at, thing in enumerate(odd_values() + numbers_beyond(0, 1)):
                if thing is not None:
                    for length in (bits * (many + 1), bits * (2 ** bits - 1)):
                        dots = [None, 0, 1] * length
                        dots = dots[:at % 12] + [thing, 7] + dots
                        told = {"part": "dots", "index": at % 12}
                        self.assert_refused(NoWord, told, nearest_rows, code, dots[:length])
        self.assert_refused(TooLarge, {"limit": 16}, nearest_rows, (4, 2, 0), [0] * 28)
        self.assert_refused(TooLarge, {"limit": 16}, nearest_rows, (8, 2, 0), [None] * 40)
        self.assert_asked_anew(nearest_rows, (4, 2, 0), [0] * 6 + [None] * 6)

    def test_examples(self):
        code, dots = (4, 2, 0), (0, 0, 0, 1, 0, 0, 1, 1, None, None, None, None)
        got = [dot_weights(code, 3), lightest(code, 3), lightest(code, 3, within=(0, 2)), nearest_rows(code, dots)]
        self.assertEqual(repr(got), "[[1, 0, 0, 0, 4, 0, 4, 0, 7, 0, 0, 0, 0], (4, [1, 3, 2]), None, (0, [[1, 3, 2]])]")


def grid_bits(size, told, data):
    grid = drawing.symbol_of(size, *told, list(data))
    return int("".join(str(dot) for dots in grid for dot in dots), 2)


class Formats(Asking):

    def all_symbols(self, told):
        """Of size 1, with a number for all of its dots each."""
        rows = reckoning.right_rows(drawing.code_of(1, told[0]), 4)
        many = 4 - CHECKS[1][told[0]]
        empty = grid_bits(1, told, [0] * many)
        found = []
        for row in rows:
            number = empty
            for (down, right), bit in zip(walking.PATHS[1], summing.bits_of_words(1, row)):
                number ^= bit << 63 - 8 * down - right
            found.append((list(row[:many]), number))
        return found

    def check_pair(self, size, one, other, told):
        number, data, others = told
        self.assertEqual([type(told), type(data), type(others)], [tuple, list, list])
        self.assertEqual((grid_bits(size, one, data) ^ grid_bits(size, other, others)).bit_count(), number)
        self.assertGreater(number, 0)

    def test_least_unlike_of_size_one(self):
        dice = random.Random(5)
        pairs = [((level, 3), (level, 3)) for level in LEVELS] + [((level, 1), (level, 6)) for level in LEVELS]
        pairs += [((2, dice.randrange(8)), (3, dice.randrange(8))), ((1, 0), (2, 5)), ((1, 4), (3, 4))]
        pairs.append(((3, 7), (1, 2)))
        for one, other in pairs:
            told = least_unlike(1, one, other)
            self.check_pair(1, one, other, told)
            if one[0] == other[0]:
                # Both data words can be changed alike: so one symbol is enough on one side.
                firsts = self.all_symbols(one)[:1]
            else:
                firsts = self.all_symbols(one)
            seconds = [number for _, number in self.all_symbols(other)]
            least = min((first ^ second).bit_count() for _, first in firsts for second in seconds if first != second)
            self.assertEqual(told[0], least)

    def test_all_formats_of_size_one(self):
        for one in FORMATS:
            for other in FORMATS[::3]:
                told = least_unlike(1, one, other)
                self.check_pair(1, one, other, told)
                self.assertEqual(told[0], least_unlike(1, other, one)[0])
                if one != other:
                    self.assertGreaterEqual(told[0], 8)
                else:
                    code = drawing.code_of(1, one[0])
                    self.assertEqual(told[0], lightest(code, 4)[0])
                    self.assertGreater(told[0], code[1])

    def test_least_unlike_of_size_two(self):
        for level in (2, 3):
            code = drawing.code_of(2, level)
            for masks in ((1, 1), (0, 7), (5, 2)):
                one, other = (level, masks[0]), (level, masks[1])
                told = least_unlike(2, one, other)
                self.check_pair(2, one, other, told)
                self.assertEqual(told[0], least_unlike(2, other, one)[0])
                if masks[0] == masks[1]:
                    self.assertEqual(told[0], lightest(code, 10)[0])
                elif level == 3:
                    counts = unlike_counts(2, one, [0] * 4, other)
                    self.assertEqual(told[0], [number for number, count in enumerate(counts) if count][0])

    def test_unlike_counts_of_size_one(self):
        dice = random.Random(6)
        for one, other in ((told, told) for told in FORMATS[::5]):
            self.check_counts(one, other, dice)
        for _ in range(12):
            self.check_counts(dice.choice(FORMATS), dice.choice(FORMATS), dice)

    def check_counts(self, one, other, dice):
        data = random_data(1, one[0], dice)
        number = grid_bits(1, one, data)
        far = [(number ^ second).bit_count() for _, second in self.all_symbols(other)]
        told = unlike_counts(1, one, data, other)
        self.assert_same(told, [far.count(many) for many in range(37)])
        if one == other:
            self.assertEqual(told[0], 1)
            self.assertEqual(told, unlike_counts(1, one, tuple(random_data(1, one[0], dice)), other))

    def test_unlike_counts_of_size_two(self):
        """The counts of both blocks, each by all its rows."""
        dice = random.Random(7)
        for one, other in (((3, 1), (3, 1)), ((0, 2), (3, 5)), ((2, 6), (3, 0))):
            data = random_data(2, one[0], dice)
            first = drawing.masked(2, drawing.symbol_of(2, *one, data), other[1])
            words = walking.words_in(2, first)
            counts = {drawing.unlike_format(2, first, *other): 1}
            for places in walking.BLOCK_WORDS[2, other[0]]:
                block = [words[index] for index in places]
                far = [weight(reckoning.added(block, row)) for row in reckoning.right_rows(drawing.code_of(2, 3), 10)]
                more = {}
                for number, count in counts.items():
                    for many in far:
                        more[number + many] = more.get(number + many, 0) + count
                counts = more
            told = unlike_counts(2, one, data, other)
            self.assert_same(told, [counts.get(many, 0) for many in range(101)])
            self.assertEqual(sum(told), 2 ** 16)
        self.assertEqual(sum(unlike_counts(2, (0, 0), [0] * 16, (2, 0))), 2 ** 32)

    def test_too_large(self):
        for size in SIZES:
            for one, other in combinations(FORMATS[::5], 2):
                wide = max(BLOCKS[size]) - CHECKS[size][other[0]]
                if one[0] != other[0] and size != 1 or one[0] == other[0] and wide * BITS[size] > 16:
                    self.assert_refused(TooLarge, {"limit": 16}, least_unlike, size, one, other)
                data = [0] * drawing.data_count(size, one[0])
                if wide * BITS[size] > 16:
                    self.assert_refused(TooLarge, {"limit": 16}, unlike_counts, size, one, data, other)
                else:
                    self.assertEqual(len(unlike_counts(size, one, data, other)), 21 + BITS[size] * WORDS[size])
        for level in (0, 1):
            self.assert_refused(TooLarge, {"limit": 16}, least_unlike, 2, (level, 0), (level, 0))
        for size in (3, 4, 5):
            self.assert_refused(TooLarge, {"limit": 16}, least_unlike, size, (3, 0), (3, 0))
            self.assertGreater(SIDES[size], 12)

    def test_errors(self):
        formats = [None, True, (), (0,), (0, 0, 0), [0, 0], (4, 0), (-1, 0), (0, 8), (0, -1), (True, 0), (0, False),
                   (None, 0), "00", GREAT] + odd_values()
        for size in NO_SIZES:
            self.assert_refused(NoSize, {"size": size}, least_unlike, size, None, None)
            self.assert_refused(NoSize, {"size": size}, unlike_counts, size, None, None, None)
        for thing in formats:
            self.assert_refused(NoFormat, {"part": "one"}, least_unlike, 5, thing, None)
            self.assert_refused(NoFormat, {"part": "other"}, least_unlike, 5, (0, 0), thing)
            self.assert_refused(NoFormat, {"part": "one"}, unlike_counts, 5, thing, None, None)
            self.assert_refused(NoFormat, {"part": "other"}, unlike_counts, 5, (0, 0), [0] * 46, thing)
        for thing in no_rows() + [0, [0, 0], (0,) * 4, "000"]:
            self.assert_refused(NoWord, {"part": "data", "index": -1}, unlike_counts, 1, (0, 0), thing, None)
        for at, thing in enumerate(odd_values() + numbers_beyond(0, 15)):
            data = [1, 2, 3][:at % 3] + [thing] + [16] * (2 - at % 3)
            self.assert_refused(NoWord, {"part": "data", "index": at % 3}, unlike_counts, 1, (0, 0), data, None)

    def test_new_answers(self):
        self.assert_asked_anew(least_unlike, 1, (0, 0), (3, 1))
        self.assert_asked_anew(least_unlike, 2, (3, 0), (3, 0))
        self.assert_asked_anew(unlike_counts, 1, (0, 0), [1, 2, 3], (1, 1))
