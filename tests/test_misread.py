"""Points 59 to 62: what becomes of symbols of which too many dots lie."""

import random
from itertools import combinations

from dotquilts.errors import NoLevel, NoMask, NoSize, NoStain, NoWord, TooLarge, Unmended
from dotquilts.misread import fate, fates, is_misleading, least_lies, pen_least, safest
from dotquilts.stains import harm, is_harmless
from dotquilts.symbols import read_words
from tests import drawing, reckoning, summing, walking
from tests.asking import GREAT, Asking, no_dots, no_rows, numbers_beyond, odd_values
from tests.drawing import FORMAT_DOTS, MASKS
from tests.test_stains import NO_LEVELS, NO_SIZES, near_stain, random_data, stained
from tests.walking import BITS, BLOCKS, CHECKS, DATA_BITS, LEVELS, PATHS, SIDES, SIZES

PLACES = [(size, level) for size in SIZES for level in LEVELS]
NO_MASKS = odd_values() + numbers_beyond(0, 7)
FEW = [(1, level) for level in LEVELS] + [(2, 3)]
ROWS = {told: reckoning.right_rows(drawing.code_of(*told), BLOCKS[told[0]][0]) for told in FEW}


def by_reading(size, level, mask, data, dots):
    """What fate is to tell, by reading the grid of the test's own."""
    try:
        told = read_words(stained(size, level, mask, data, (), dots))
    except Unmended:
        return ("refused",)
    if told[1:4] == (level, mask, list(data)):
        return ("right",)
    return ("other", told[1], told[2], tuple(told[3]))


def places_left(row):
    return sum(map(bool, row))


def near_rows(size, level, row):
    """The right rows within the bound of a row: there is one at most."""
    return [right for right in ROWS[size, level] if 2 * len(reckoning.unlike(row, right)) <= CHECKS[size][level]]


class Fate(Asking):

    def test_few_and_many_lies(self):
        dice = random.Random(1)
        seen = {}
        for size, level in PLACES * 8:
            mask, data = dice.choice(MASKS), random_data(size, level, dice)
            many = dice.choice((0, 1, 2, 3, 5, SIDES[size], SIDES[size] ** 2))
            dots = dice.sample(dice.choice((PATHS[size], walking.all_dots(size), FORMAT_DOTS[size])), min(many, 16))
            told = fate(size, level, mask, dice.choice((list, tuple))(data), dice.choice((list, tuple))(dots))
            self.assert_same(told, by_reading(size, level, mask, data, dots))
            seen[told[0]] = seen.get(told[0], 0) + 1
        self.assertEqual(sorted(seen), ["other", "refused", "right"])

    def test_other_data_and_other_formats(self):
        """Lies that lead to the words of another symbol, or to another format."""
        dice = random.Random(2)
        for size, level in PLACES:
            mask, data = dice.choice(MASKS), random_data(size, level, dice)
            right = drawing.symbol_of(size, level, mask, data)
            for format_to, changed in (((level, mask), [data[0] ^ 1] + data[1:]), ((level, (mask + 1) % 8), data),
                                       ((level, mask), random_data(size, level, dice))):
                other = drawing.symbol_of(size, *format_to, changed)
                dots = [dot for dot in walking.all_dots(size) if right[dot[0]][dot[1]] != other[dot[0]][dot[1]]]
                wanted = ("other", *format_to, tuple(changed))
                self.assert_same(fate(size, level, mask, data, dots), wanted)
        other = fate(1, 0, 3, [1, 2, 3], self.between((0, 3), [1, 2, 3], (2, 5), [7]))
        self.assert_same(other, ("other", 2, 5, (7,)))

    def between(self, one, data, other, others):
        grids = [drawing.symbol_of(1, *one, data), drawing.symbol_of(1, *other, others)]
        return [dot for dot in walking.all_dots(1) if grids[0][dot[0]][dot[1]] != grids[1][dot[0]][dot[1]]]

    def test_harmless_stains_are_told_as_they_were(self):
        """Points 38 and 39 once more: whatever of a harmless stain lies; and of a harmful one, what its paper tells."""
        dice = random.Random(3)
        seen = {True: 0, False: 0}
        for size, level in PLACES * 6:
            _, lying = near_stain(size, level, dice)
            if is_harmless(size, level, (), lying):
                seen[True] += 1
                for _ in range(4):
                    dots = dice.sample(lying, dice.randrange(len(lying) + 1))
                    told = fate(size, level, dice.choice(MASKS), random_data(size, level, dice), dots)
                    self.assertEqual(told, ("right",))
            else:
                seen[False] += 1
                self.assertNotEqual(fate(size, level, *harm(size, level, (), lying)), ("right",))
        self.assertGreater(min(seen.values()), 20)

    def test_border_dots_change_nothing(self):
        dice = random.Random(4)
        for size, level in PLACES:
            data = random_data(size, level, dice)
            edge = sorted(walking.border(size))
            dots = dice.sample(PATHS[size], dice.randrange(6))
            self.assert_same(fate(size, level, 1, data, edge), ("right",))
            self.assert_same(fate(size, level, 1, data, edge + dots), fate(size, level, 1, data, dots))

    def test_examples_and_new_answers(self):
        got = [fate(1, 0, 3, (1, 2, 3), [(2, 5)]), fate(1, 0, 3, (1, 2, 3), [(0, 0)]), least_lies(1, 0)[0],
               is_misleading(1, 0, (1, 1, 0), [(3, 5), (5, 5)])]
        self.assertEqual(repr(got), "[('refused',), ('right',), 2, True]")
        self.assert_asked_anew(fate, 1, 0, 3, [1, 2, 3], [(3, 5), (5, 5)])
        self.assert_same(fate(1, 0, 3, [1, 2, 3], [(3, 5), (5, 5)]), ("other", 0, 3, (0, 3, 3)))

    def test_errors(self):
        for size in NO_SIZES:
            self.assert_refused(NoSize, {"size": size}, fate, size, None, None, None, None)
        for level in NO_LEVELS:
            self.assert_refused(NoLevel, {"level": level}, fate, 2, level, None, None, None)
        for mask in NO_MASKS:
            self.assert_refused(NoMask, {"mask": mask}, fate, 2, 0, mask, None, None)
        for thing in no_rows() + [0, (), [0, 0], (0,) * 4, "000"]:
            self.assert_refused(NoWord, {"part": "data", "index": -1}, fate, 1, 0, 0, thing, None)
        for at, thing in enumerate(odd_values() + numbers_beyond(0, 15)):
            data = [1, 2, 3][:at % 3] + [thing] + [16] * (2 - at % 3)
            self.assert_refused(NoWord, {"part": "data", "index": at % 3}, fate, 1, 0, 0, data, None)
        for thing in no_rows() + [0, "ab"]:
            self.assert_refused(NoStain, {"part": "dots", "index": -1}, fate, 1, 0, 0, [0, 0, 0], thing)
        for at, thing in enumerate(no_dots(8) + [(1, 1)]):
            dots = [(1, 1), (7, 7), (0, 5)][:at % 3 + 1] + [thing, None]
            self.assert_refused(NoStain, {"part": "dots", "index": at % 3 + 1}, fate, 1, 0, 0, (0, 0, 0), dots)


class LeastLies(Asking):

    def test_size_one_against_all_sets_of_dots(self):
        """No smaller set of word dots leads from the words 0 to another right row."""
        for level in LEVELS:
            number, difference, dots = least_lies(1, level)
            self.assertEqual(len(dots), number)
            for many in range(number):
                for chosen in combinations(PATHS[1], many):
                    told = near_rows(1, level, self.words(1, level, chosen))
                    self.assertTrue(told in ([], [ROWS[1, level][0]]))
            self.check(1, level, number, difference, dots)

    def words(self, size, level, dots):
        """The words of the first block in which just some dots are set."""
        grid = walking.with_words(size, [0] * walking.WORDS[size])
        for row, column in dots:
            grid[row][column] = 1
        words = walking.words_in(size, grid)
        return [words[index] for index in walking.BLOCK_WORDS[size, level][0]]

    def check(self, size, level, number, difference, dots):
        dice = random.Random(5)
        self.assertEqual([type(number), type(difference), type(dots)], [int, tuple, list])
        self.assertEqual(dots, sorted(set(dots)))
        self.assertLessEqual(set(dots), set(PATHS[size]))
        self.assertTrue(any(difference))
        self.assertIs(is_misleading(size, level, difference, dots), True)
        for mask in MASKS:
            data = random_data(size, level, dice)
            told = read_words(stained(size, level, mask, data, (), dots))
            self.assertEqual(told[:4], (size, level, mask, [one ^ two for one, two in zip(data, difference)]))

    def test_both_sizes(self):
        for size in (1, 2):
            for level in LEVELS:
                number, difference, dots = least_lies(size, level)
                checks = CHECKS[size][level]
                self.assertEqual(len(dots), number)
                self.assertEqual(len(difference), drawing.data_count(size, level))
                self.assertGreaterEqual(number, checks + 1 - checks // 2)
                self.check(size, level, number, difference, dots)

    def test_size_two_against_lighter_rows(self):
        """By the rows with the fewest words other than 0, and by what each row with one more needs at least."""
        for level in LEVELS:
            code = drawing.code_of(2, level)
            checks = code[1]
            least = 99
            for places in combinations(range(10), checks + 1):
                own = self.row_at(code, places)
                for factor in range(1, 16):
                    counts = sorted(bin(word).count("1") for word in reckoning.multiple(4, own, factor))
                    least = min(least, sum(counts[:10 - checks // 2]))
            self.assertLessEqual(least, checks + 2 - checks // 2)
            self.assertEqual(least_lies(2, level)[0], least)

    def row_at(self, code, places):
        """A right row that is 0 but at these places: those ahead of the last ones are gaps, too."""
        from dotquilts.codes import repaired
        row = [0] * 10
        for place in places[1:]:
            row[place] = None
        row[places[0]] = 1
        return repaired(code, row)[0]

    def test_only_sizes_one_and_two(self):
        for size in NO_SIZES + [3, 4, 5]:
            for level in (0, None):
                self.assert_refused(NoSize, {"size": size}, least_lies, size, level)
        for level in NO_LEVELS:
            self.assert_refused(NoLevel, {"level": level}, least_lies, 2, level)
        self.assert_asked_anew(least_lies, 2, 2)


class Misleading(Asking):

    def test_against_reading(self):
        """Sets that make a right row but for some words, in one block or in several, with formats seen."""
        dice = random.Random(6)
        seen = {True: 0, False: 0}
        for size, level in PLACES * 5:
            difference = [0] * drawing.data_count(size, level)
            for _ in range(dice.choice((1, 1, 2, 5))):
                difference[dice.randrange(len(difference))] = dice.randrange(2 ** BITS[size])
            dots = []
            for block, row in enumerate(drawing.right_blocks(size, level, difference)):
                spoilt = dice.sample(range(len(row)), CHECKS[size][level] // 2 + dice.choice((0, 0, 0, 1)))
                for at, word in enumerate(row):
                    value = dice.randrange(2 ** BITS[size]) if at in spoilt else word
                    bits = summing.bits_of_words(size, [value])
                    dots += [dot for dot, bit in zip(drawing.word_dots(size, level, block, at), bits) if bit]
            dice.shuffle(dots)
            wanted = any(difference) and all(
                self.leads(size, level, mask, random_data(size, level, dice), difference, dots) for mask in (0, 5))
            self.assertIs(is_misleading(size, level, tuple(difference), dots), wanted)
            self.assertIs(is_misleading(size, level, difference, tuple(dots)), wanted)
            seen[wanted] += 1
        self.assertGreater(min(seen.values()), 15)

    def leads(self, size, level, mask, data, difference, dots):
        try:
            told = read_words(stained(size, level, mask, data, (), dots))
        except Unmended:
            return False
        return told[3] == [one ^ two for one, two in zip(data, difference)]

    def test_words_0_and_other_dots(self):
        for size in (1, 2):
            for level in LEVELS:
                _, difference, dots = least_lies(size, level)
                self.assertIs(is_misleading(size, level, [0] * len(difference), dots), False)
                self.assertIs(is_misleading(size, level, [0] * len(difference), []), False)
                for other in ((0, 0), (SIDES[size] - 1, 4), FORMAT_DOTS[size][0], FORMAT_DOTS[size][13]):
                    self.assertIs(is_misleading(size, level, difference, dots + [other]), False)
                self.assertIs(is_misleading(size, level, difference, dots[1:]), False)
                self.assertIs(is_misleading(size, level, difference, ()), False)

    def test_errors(self):
        for size in NO_SIZES:
            self.assert_refused(NoSize, {"size": size}, is_misleading, size, None, None, None)
        for level in NO_LEVELS:
            self.assert_refused(NoLevel, {"level": level}, is_misleading, 5, level, None, None)
        for thing in no_rows() + [0, (), [0, 0], (0,) * 4, "000"]:
            self.assert_refused(NoWord, {"part": "difference", "index": -1}, is_misleading, 1, 0, thing, None)
        for at, thing in enumerate(odd_values() + numbers_beyond(0, 15)):
            words = [0, 0, 0][:at % 3] + [thing] + [16] * (2 - at % 3)
            self.assert_refused(NoWord, {"part": "difference", "index": at % 3}, is_misleading, 1, 0, words, None)
        for thing in no_rows() + [0, "ab"]:
            self.assert_refused(NoStain, {"part": "dots", "index": -1}, is_misleading, 1, 0, [0, 0, 0], thing)
        for thing in no_dots(8) + [(0, 1)]:
            self.assert_refused(NoStain, {"part": "dots", "index": 1}, is_misleading, 1, 0, [0, 0, 0], [(0, 1), thing])


class Fates(Asking):

    def test_size_one_against_all_sets(self):
        """All 2 ** 16 rows of four words: to which right row each is repaired."""
        for level in LEVELS:
            near = {}
            checks = CHECKS[1][level]
            for number, right in enumerate(ROWS[1, level]):
                for many in range(checks // 2 + 1):
                    for places in combinations(range(4), many):
                        self.mark(near, list(right), places, number)
            counts = [[0, 0, 0] for _ in range(17)]
            for row in range(2 ** 16):
                words = (row >> 12, row >> 8 & 15, row >> 4 & 15, row & 15)
                fate_of = near.get(words)
                counts[row.bit_count()][2 if fate_of is None else 1 if fate_of else 0] += 1
            self.assert_same(fates(1, level), [tuple(count) for count in counts])

    def mark(self, near, row, places, number):
        if not places:
            near[tuple(row)] = number
            return
        kept = row[places[0]]
        for word in range(16):
            if word != kept:
                self.mark(near, row[:places[0]] + [word] + row[places[0] + 1:], places[1:], number)

    def test_size_two(self):
        told = fates(2, 3)
        self.assertEqual(len(told), 41)
        self.assertEqual([type(item) for item in told], [tuple] * 41)
        for many, counts in enumerate(told):
            self.assertEqual(sum(counts), self.choose(40, many))
        # Few dots by all sets; right are those that touch four words at most.
        for many in range(4):
            self.assertEqual(told[many], (self.choose(40, many), 0, 0))
        first = [number for number, counts in enumerate(told) if counts[1]][0]
        self.assertEqual(first, least_lies(2, 3)[0])
        right = sum(self.choose(10, words) * 15 ** words for words in range(5))
        self.assertEqual(sum(counts[0] for counts in told), right)
        self.assertEqual(sum(counts[1] for counts in told), 255 * right)
        self.check_some(told, 5)

    def check_some(self, told, many):
        """Of the sets of five dots those that lead elsewhere, by all rows and by the words that are left out."""
        found = set()
        for row in ROWS[2, 3][1:]:
            places = [at for at, word in enumerate(row) if word]
            for left in combinations(places, len(places) - (places_left(row) - 4)):
                words = tuple(0 if at in left else word for at, word in enumerate(row))
                if sum(bin(word).count("1") for word in words) == many and len(left) <= 4:
                    found.add(words)
        self.assertLessEqual(len(found), told[many][1])

    def choose(self, many, chosen):
        total = 1
        for at in range(chosen):
            total = total * (many - at) // (at + 1)
        return total

    def test_errors(self):
        for size in NO_SIZES:
            self.assert_refused(NoSize, {"size": size}, fates, size, None)
        for level in NO_LEVELS:
            self.assert_refused(NoLevel, {"level": level}, fates, 5, level)
        for size, level in PLACES:
            if (size, level) not in FEW:
                self.assert_refused(TooLarge, {"limit": 12}, fates, size, level)
        self.assert_asked_anew(fates, 1, 2)


class Pens(Asking):

    def least(self, size, level, mask, data):
        """The least number of light dots, by all right rows and all choices of words that are left to be repaired."""
        grid = drawing.symbol_of(size, level, mask, list(data))
        least = None
        for block in range(len(BLOCKS[size])):
            light = []
            for at in range(BLOCKS[size][block]):
                shades = [1 - grid[row][column] for row, column in drawing.word_dots(size, level, block, at)]
                light.append(int("".join(map(str, shades)), 2))
            for row in ROWS[size, level][1:]:
                for left in combinations(range(len(row)), CHECKS[size][level] // 2):
                    words = [word for at, word in enumerate(row) if at not in left]
                    free = [word for at, word in enumerate(light) if at not in left]
                    if all(word & ~shade == 0 for word, shade in zip(words, free)):
                        number = sum(bin(word).count("1") for word in words)
                        least = number if least is None else min(least, number)
        return least

    def check(self, size, level, mask, data):
        dots = pen_least(size, level, mask, data)
        least = self.least(size, level, mask, data)
        if dots is None:
            self.assertIsNone(least)
            return None
        self.assertEqual([type(dots), len(dots)], [list, least])
        self.assertEqual(dots, sorted(set(dots)))
        grid = drawing.symbol_of(size, level, mask, list(data))
        self.assertTrue(all(dot in PATHS[size] and grid[dot[0]][dot[1]] == 0 for dot in dots))
        told = read_words(stained(size, level, mask, list(data), (), dots))
        self.assertEqual(told[:3], (size, level, mask))
        self.assertNotEqual(told[3], list(data))
        return len(dots)

    def test_drawn_symbols(self):
        dice = random.Random(7)
        seen = set()
        for _ in range(6):
            for level in (1, 2, 3):
                seen.add(self.check(1, level, dice.choice(MASKS), random_data(1, level, dice)))
        for _ in range(3):
            self.check(1, 0, dice.choice(MASKS), tuple(random_data(1, 0, dice)))
        self.check(2, 3, 4, random_data(2, 3, dice))
        self.assertIn(None, seen)
        self.assertGreater(len(seen), 2)

    def test_size_one_against_all_sets_of_light_dots(self):
        dice = random.Random(8)
        for level in (1, 2, 3):
            mask, data = dice.choice(MASKS), random_data(1, level, dice)
            grid = drawing.symbol_of(1, level, mask, data)
            light = [dot for dot in PATHS[1] if grid[dot[0]][dot[1]] == 0]
            told = pen_least(1, level, mask, data)
            for many in range(len(light) + 1 if told is None else len(told)):
                for dots in combinations(light, many):
                    self.assertIn(fate(1, level, mask, data, dots), (("right",), ("refused",)))

    def test_safest(self):
        for level in (2, 3):
            for mask in MASKS:
                counts = [self.check(1, level, mask, (word,)) for word in range(16)]
                if None in counts:
                    wanted = (None, (counts.index(None),))
                else:
                    wanted = (max(counts), (counts.index(max(counts)),))
                self.assert_same(safest(1, level, mask), wanted)

    def test_errors(self):
        for call, behind in ((pen_least, (None, None)), (safest, (None,))):
            for size in NO_SIZES:
                self.assert_refused(NoSize, {"size": size}, call, size, None, *behind)
            for level in NO_LEVELS:
                self.assert_refused(NoLevel, {"level": level}, call, 5, level, *behind)
            for size, level in PLACES:
                if (size, level) not in FEW:
                    self.assert_refused(TooLarge, {"limit": 12}, call, size, level, *behind)
        for mask in NO_MASKS:
            self.assert_refused(NoMask, {"mask": mask}, pen_least, 2, 3, mask, None)
            for size, level in FEW:
                self.assert_refused(NoMask, {"mask": mask}, safest, size, level, mask)
        for size, level in FEW:
            if DATA_BITS[size][level] > 4:
                self.assert_refused(TooLarge, {"limit": 4}, safest, size, level, 0)
        for thing in no_rows() + [0, GREAT, (), [0, 0], (0,) * 4, "000"]:
            self.assert_refused(NoWord, {"part": "data", "index": -1}, pen_least, 1, 0, 0, thing)
        for at, thing in enumerate(odd_values() + numbers_beyond(0, 15)):
            data = [1, 2, 3][:at % 3] + [thing] + [16] * (2 - at % 3)
            self.assert_refused(NoWord, {"part": "data", "index": at % 3}, pen_least, 1, 0, 0, data)
        self.assert_asked_anew(pen_least, 1, 0, 0, [1, 2, 3])
