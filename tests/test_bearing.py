"""Points 40 and 41: what sets of dots, squares and lines symbols bear, and the least sets that they do not."""

import random
from itertools import combinations

from dotquilts.errors import NoKind, NoNumber
from dotquilts.stains import borne, greatest_square, harmful_squares, is_harmless, least_harmful, lines_borne
from tests import drawing, staining, walking
from tests.asking import GREAT, Asking, numbers_beyond, odd_values
from tests.drawing import FORMAT_DOTS
from tests.staining import square
from tests.walking import BLOCKS, CHECKS, LEVELS, PATHS, SIDES, SIZES

PLACES = [(size, level) for size in SIZES for level in LEVELS]
KINDS = ("lost", "lying")
NO_KINDS = odd_values() + [0, GREAT, "Lost", "lost ", "lie", b"lost", ("lost",), ["lying"], "lostlying"]


def is_borne_by_package(size, level, kind, dots):
    return is_harmless(size, level, dots) if kind == "lost" else is_harmless(size, level, (), dots)


def borne_by_choices(size, level, dots):
    """The pairs of point 40, by going through all choices of lost and lying dots."""
    good = set()
    for lost in range(len(dots) + 1):
        for lying in range(len(dots) + 1 - lost):
            if all(staining.is_harmless(size, level, gone, wrong) for gone in combinations(dots, lost)
                   for wrong in combinations([dot for dot in dots if dot not in gone], lying)):
                good.add((lost, lying))
    # All smaller choices are among "at most so many", too.
    whole = {(lost, lying) for lost, lying in good
             if all((one, other) in good for one in range(lost + 1) for other in range(lying + 1))}
    return sorted((lost, lying) for lost, lying in whole
                  if (lost + 1, lying) not in whole and (lost, lying + 1) not in whole)


def close_dots(size, level, many, dice):
    """Some dots of few words of a block, or of the formats, or of both."""
    block = dice.randrange(len(BLOCKS[size]))
    words = dice.sample(range(BLOCKS[size][block]), min(dice.randrange(1, many + 1), BLOCKS[size][block]))
    dots = [dot for at in words for dot in drawing.word_dots(size, level, block, at)]
    dots += dice.sample(sorted(walking.border(size)), 2) + dice.sample(FORMAT_DOTS[size], dice.choice((0, 0, many)))
    return dice.sample(dots, min(many, len(dots)))


class Borne(Asking):

    def test_small_sets_by_all_choices(self):
        dice = random.Random(1)
        for size, level in PLACES * 2:
            dots = close_dots(size, level, dice.randrange(1, 7), dice)
            self.assert_same(borne(size, level, dots), borne_by_choices(size, level, dots))

    def test_sets_of_format_dots_by_all_choices(self):
        dice = random.Random(2)
        for size, level in ((1, 0), (4, 3)):
            for _ in range(3):
                # Many of the dots at which two formats are unlike: they bound what may be lost and lie.
                places = dice.choice([told for told in staining.UNLIKE[level] if len(told) == 4])
                dots = [FORMAT_DOTS[size][at] for at in places] + [FORMAT_DOTS[size][at + 10] for at in places]
                wanted = borne_by_choices(size, level, dots)
                self.assert_same(borne(size, level, dots), wanted)
                self.assertEqual(wanted, [(1, 3), (3, 2), (5, 1), (7, 0)])

    def test_great_sets_by_the_worst_choices(self):
        """Each pair is borne in the worst choices, and with one dot more, lost or lying, it is not."""
        dice = random.Random(3)
        for size, level in PLACES * 3:
            dots = dice.sample(walking.all_dots(size), min(30 + dice.randrange(40), SIDES[size] ** 2))
            pairs = borne(size, level, dots)
            self.assertEqual(pairs, sorted(pairs))
            for lost, lying in pairs:
                self.assertLessEqual(lost + lying, len(dots))
                self.assertTrue(self.worst_is_harmless(size, level, dots, lost, lying))
                for more in ((lost + 1, lying), (lost, lying + 1)):
                    if sum(more) <= len(dots):
                        self.assertFalse(self.worst_is_harmless(size, level, dots, *more))
            self.assert_no_gap(size, level, dots, pairs)

    def assert_no_gap(self, size, level, dots, pairs):
        """For each number of lost dots that is borne at all some pair tells the most that may lie."""
        for lost in range(max(pair[0] for pair in pairs) + 2):
            told = [lying for one, lying in pairs if one >= lost]
            most = max(told) if told else -1
            wanted = -1
            while lost + wanted + 1 <= len(dots) and self.worst_is_harmless(size, level, dots, lost, wanted + 1):
                wanted += 1
            self.assertEqual(most, wanted)

    def worst_is_harmless(self, size, level, dots, lost, lying):
        """Of the words of a block, and of the dots at which formats are unlike, as many lie as can, others are lost."""
        block_at = staining.BLOCK_AT[size, level]
        for block in range(len(BLOCKS[size])):
            words = {staining.WORD_AT[size][dot] for dot in dots if dot in staining.WORD_AT[size]}
            words = sum(block_at[index] == block for index in words)
            wrong = min(lying, words)
            if 2 * wrong + min(lost, words - wrong) > CHECKS[size][level]:
                return False
        formats = [staining.FORMAT_AT[size][dot] for dot in dots if dot in staining.FORMAT_AT[size]]
        for places in staining.UNLIKE[level]:
            seen = sum(at in places for at in formats)
            wrong = min(lying, seen)
            if 2 * len(places) - min(lost, seen - wrong) <= 2 * wrong:
                return False
        return True

    def test_examples(self):
        self.assert_same(borne(2, 3, PATHS[2][:4]), [(0, 4), (1, 3), (2, 2), (3, 1), (4, 0)])
        self.assert_same(borne(2, 3, ((0, 0), (11, 11))), [(0, 2), (1, 1), (2, 0)])
        self.assert_same(borne(1, 0, [(2, 5)]), [(1, 0)])
        for size, level in PLACES:
            self.assert_same(borne(size, level, ()), [(0, 0)])
            self.assert_same(borne(size, level, []), [(0, 0)])
            self.assert_same(borne(size, level, [(0, 3)]), [(0, 1), (1, 0)])
        self.assert_asked_anew(borne, 5, 2, PATHS[5][:40])


class Squares(Asking):

    def test_harmful_squares(self):
        dice = random.Random(4)
        for size, level in PLACES:
            for kind in KINDS:
                greatest = greatest_square(size, level, kind)[0]
                for many in sorted({1, greatest, dice.randrange(2, SIDES[size] + 1), SIDES[size]}):
                    left = SIDES[size] - many + 1
                    wanted = [(row, column) for row in range(left) for column in range(left)
                              if not is_borne_by_package(size, level, kind, square(row, column, many))]
                    self.assert_same(harmful_squares(size, level, kind, many), wanted)

    def test_greatest_square(self):
        for size, level in PLACES:
            for kind in KINDS:
                told = greatest_square(size, level, kind)
                self.assertEqual([type(item) for item in told], [int, int, int])
                many, row, column = told
                left = SIDES[size] - many + 1
                first = [place for place in [(down, right) for down in range(left) for right in range(left)]
                         if is_borne_by_package(size, level, kind, square(*place, many))][0]
                self.assertEqual((row, column), first)
                for down in range(left - 1):
                    for right in range(left - 1):
                        dots = square(down, right, many + 1)
                        self.assertFalse(is_borne_by_package(size, level, kind, dots))
                self.assertTrue(staining.is_borne(size, level, kind, square(row, column, many)))

    def test_lines(self):
        for size, level in PLACES:
            for kind in KINDS:
                told = lines_borne(size, level, kind)
                self.assertEqual([type(item) for item in told], [int, int])
                for turned, many in enumerate(told):
                    self.assertTrue(all(self.lines(size, level, kind, turned, many)))
                    self.assertLess(many, SIDES[size])
                    self.assertFalse(all(self.lines(size, level, kind, turned, many + 1)))

    def lines(self, size, level, kind, turned, many):
        """For each place of so many neighbouring rows, or columns, whether they are borne."""
        for begin in range(SIDES[size] - many + 1):
            dots = [(row, column) for row in range(begin, begin + many) for column in range(SIDES[size])]
            dots = [dot[::-1] for dot in dots] if turned else dots
            yield is_borne_by_package(size, level, kind, dots)

    def test_known_lines(self):
        # In size 1 a row within goes through two words or more, and one check word mends one lost word.
        self.assert_same(lines_borne(1, 0, "lost"), (0, 0))
        self.assert_same(greatest_square(1, 0, "lying"), (3, 0, 0))


class LeastHarmful(Asking):

    def test_all_smaller_sets(self):
        """In the sizes 1 and 2, where these sets are few; and all sets as great that come first."""
        for size in (1, 2):
            for level in LEVELS:
                for kind in KINDS:
                    told = least_harmful(size, level, kind)
                    self.assert_not_borne(size, level, kind, told)
                    if len(told) > 4 or (size == 2 and len(told) > 3):
                        continue
                    inner = [dot for dot in walking.all_dots(size) if dot not in walking.border(size)]
                    for dots in combinations(inner, len(told) - 1):
                        self.assertTrue(staining.is_borne(size, level, kind, dots))
                    for dots in combinations(inner, len(told)):
                        if list(dots) == told:
                            break
                        self.assertTrue(staining.is_borne(size, level, kind, dots))

    def assert_not_borne(self, size, level, kind, dots):
        self.assertIs(type(dots), list)
        self.assertEqual(dots, sorted(set(dots)))
        self.assertFalse(staining.is_borne(size, level, kind, dots))
        for dot in dots:
            self.assertTrue(staining.is_borne(size, level, kind, [other for other in dots if other != dot]))

    def test_no_set_with_fewer_dots_or_ahead(self):
        """All sizes: whatever begins the set, no lesser dot leads to a harmful set of as many dots."""
        for size, level in PLACES:
            for kind in KINDS:
                told = least_harmful(size, level, kind)
                self.assert_not_borne(size, level, kind, told)
                self.assertFalse(self.leads_on(size, level, kind, [], len(told) - 1))
                for at, dot in enumerate(told):
                    self.assertTrue(self.leads_on(size, level, kind, told[:at + 1], len(told)))
                    ahead = told[at - 1] if at else (-1, -1)
                    for other in walking.all_dots(size):
                        if ahead < other < dot:
                            self.assertFalse(self.leads_on(size, level, kind, told[:at] + [other], len(told)))

    def leads_on(self, size, level, kind, begin, many):
        """Whether a set that begins so, with no dot between its dots, becomes harmful by greater dots, many in all."""
        last = begin[-1] if begin else (-1, -1)
        left = many - len(begin)
        too_many = CHECKS[size][level] + 1 if kind == "lost" else CHECKS[size][level] // 2 + 1
        block_at = staining.BLOCK_AT[size, level]
        for block in range(len(BLOCKS[size])):
            here = [(dot, index) for dot, index in staining.WORD_AT[size].items() if block_at[index] == block]
            words = {index for dot, index in here if dot in begin}
            behind = {index for dot, index in here if dot > last}
            if len(words) + min(left, len(behind - words)) >= too_many:
                return True
        for places in staining.UNLIKE[level]:
            dots = [dot for dot, at in staining.FORMAT_AT[size].items() if at in places]
            here = sum(dot in begin for dot in dots) + min(left, sum(dot > last for dot in dots))
            if here >= (len(dots) if kind == "lost" else len(dots) // 2):
                return True
        return False

    def test_examples(self):
        self.assert_same(least_harmful(1, 0, "lying"), [(2, 5)])
        self.assert_same(least_harmful(1, 0, "lost"), [(2, 5), (3, 5)])
        self.assert_asked_anew(least_harmful, 5, 3, "lost")


class Errors(Asking):

    def test_no_kind(self):
        for call in (greatest_square, lines_borne, least_harmful):
            for kind in NO_KINDS:
                self.assert_refused(NoKind, {"kind": kind}, call, 2, 1, kind)
        for kind in NO_KINDS:
            self.assert_refused(NoKind, {"kind": kind}, harmful_squares, 2, 1, kind, None)

    def test_no_number(self):
        for size in SIZES:
            for thing in odd_values() + numbers_beyond(1, SIDES[size]):
                for kind in KINDS:
                    self.assert_refused(NoNumber, {"part": "many"}, harmful_squares, size, 0, kind, thing)

    def test_all_dots_and_one_dot(self):
        for size, level in PLACES:
            for kind in KINDS:
                self.assert_same(harmful_squares(size, level, kind, SIDES[size]), [(0, 0)])
                self.assert_asked_anew(harmful_squares, size, level, kind, 4)
                for row, column in harmful_squares(size, level, kind, 1):
                    self.assertEqual((size, kind, level), (1, "lying", 0))
                    self.assertIn((row, column), PATHS[1])
