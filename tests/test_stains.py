"""Points 38 and 39: stains that do no harm, and papers that show that others do."""

import random

from dotquilts.errors import NoLevel, NoPaper, NoSize, NoStain, Unmended
from dotquilts.paths import path
from dotquilts.stains import (
    are_lookalikes, borne, check_harm, fitting_count, greatest_square, harm, harmful_squares, is_harmless,
    least_harmful, lines_borne, lookalikes,
)
from dotquilts.symbols import read_words
from tests import drawing, staining, walking
from tests.asking import GREAT, THING, Asking, no_dots, no_rows, numbers_beyond, odd_values
from tests.drawing import FORMAT_DOTS, MASKS
from tests.walking import BITS, BLOCKS, CHECKS, LEVELS, PATHS, SIDES, SIZES

PLACES = [(size, level) for size in SIZES for level in LEVELS]
NO_SIZES = odd_values() + numbers_beyond(1, 5)
NO_LEVELS = odd_values() + numbers_beyond(0, 3)


def random_data(size, level, dice):
    return [dice.randrange(2 ** BITS[size]) for _ in range(drawing.data_count(size, level))]


def stained(size, level, mask, data, lost, lies):
    """The symbol with these words, stained, by the test's own reckoning."""
    grid = drawing.symbol_of(size, level, mask, data)
    for row, column in lost:
        grid[row][column] = None
    for row, column in lies:
        grid[row][column] ^= 1
    return grid


def near_stain(size, level, dice):
    """A stain that is about as great as can be borne: some words of each block, some format dots, border dots."""
    lost, lying = [], []
    for block, many in enumerate(BLOCKS[size]):
        gone = dice.randrange(CHECKS[size][level] + 1)
        wrong = (CHECKS[size][level] - gone) // 2 + dice.choice((-1, 0, 0, 0, 1))
        words = dice.sample(range(many), min(gone + max(wrong, 0), many))
        for at, word in enumerate(words):
            dots = drawing.word_dots(size, level, block, word)
            chosen = dice.sample(dots, dice.randrange(1, len(dots) + 1))
            if at < gone:
                lost += chosen[:1]
                # In a word with a lost dot others may lie.
                (lost if dice.random() < 0.5 else lying).extend(chosen[1:])
            else:
                lying += chosen
    formats = dice.sample(FORMAT_DOTS[size], dice.choice((0, 0, 1, 2, 3, 4, 6, 9)))
    cut = dice.randrange(len(formats) + 1)
    edge = dice.sample(sorted(walking.border(size)), dice.randrange(5))
    lost += formats[:cut] + edge[:2]
    lying += formats[cut:] + edge[2:]
    dice.shuffle(lost)
    dice.shuffle(lying)
    return lost, lying


class Harmless(Asking):

    def check_told(self, size, level, lost, lying, dice):
        """Whatever lies, the symbol is read as it was."""
        for _ in range(3):
            data = random_data(size, level, dice)
            mask = dice.choice(MASKS)
            lies = dice.sample(lying, dice.randrange(len(lying) + 1))
            told = read_words(stained(size, level, mask, data, lost, lies))
            self.assertEqual(told[:4], (size, level, mask, data))

    def check_paper(self, size, level, lost, lying):
        """The paper's symbol is not read as it was."""
        paper = harm(size, level, lost, lying)
        self.assertIs(type(paper), tuple)
        mask, data, dots = paper
        self.assertIs(type(data), tuple)
        self.assertIs(type(dots), list)
        self.assertEqual(len(set(dots)), len(dots))
        self.assertLessEqual(set(dots), set(lying))
        self.assertIsNone(check_harm(size, level, lost, lying, paper))
        try:
            told = read_words(stained(size, level, mask, data, lost, dots))
        except Unmended:
            return
        self.assertNotEqual(told[:4], (size, level, mask, list(data)))

    def test_stains_about_the_bound(self):
        dice = random.Random(1)
        seen = {True: 0, False: 0}
        for size, level in PLACES * 12:
            lost, lying = near_stain(size, level, dice)
            told = is_harmless(size, level, lost, lying)
            self.assertIs(told, staining.is_harmless(size, level, lost, lying))
            self.assertIs(is_harmless(size, level, tuple(lost), lying=tuple(lying)), told)
            seen[told] += 1
            if told:
                self.assertIsNone(harm(size, level, lost, lying))
                self.check_told(size, level, lost, lying, dice)
            else:
                self.check_paper(size, level, lost, lying)
        self.assertGreater(min(seen.values()), 60)

    def test_any_stains(self):
        dice = random.Random(2)
        for size, level in PLACES * 6:
            dots = dice.sample(walking.all_dots(size), dice.randrange(SIDES[size] ** 2 + 1))
            cut = dice.randrange(len(dots) + 1)
            told = is_harmless(size, level, dots[:cut], dots[cut:])
            self.assertIs(told, staining.is_harmless(size, level, dots[:cut], dots[cut:]))
            if not told:
                self.check_paper(size, level, dots[:cut], dots[cut:])

    def test_at_the_bound_of_each_block(self):
        for size, level in PLACES:
            checks = CHECKS[size][level]
            for block in range(len(BLOCKS[size])):
                firsts = [drawing.word_dots(size, level, block, at)[0] for at in range(BLOCKS[size][block])]
                self.assertTrue(is_harmless(size, level, firsts[:checks]))
                self.assertFalse(is_harmless(size, level, firsts[:checks + 1]))
                self.assertTrue(is_harmless(size, level, (), firsts[:checks // 2]))
                self.assertFalse(is_harmless(size, level, lying=firsts[:checks // 2 + 1]))
                # A lost dot in the word of a lying one leaves nothing of the word.
                lasts = [drawing.word_dots(size, level, block, at)[-1] for at in range(checks)]
                self.assertTrue(is_harmless(size, level, firsts[:checks], lasts))
                self.check_paper(size, level, firsts[:checks + 1], ())
                self.check_paper(size, level, firsts[:1], firsts[1:checks // 2 + 2])

    def test_formats(self):
        for size in SIZES:
            dots = FORMAT_DOTS[size]
            self.assertTrue(is_harmless(size, 0, dots[:10]))
            self.assertTrue(is_harmless(size, 3, dots[10:]))
            self.assertTrue(is_harmless(size, 0, (), dots[4:7]))
            self.assertFalse(is_harmless(size, 0, dots))
            self.assertFalse(is_harmless(size, 0, dots[10:], dots[:3]))
            self.assertFalse(is_harmless(size, 0, (), dots[:10]))
            for level in LEVELS:
                for places in staining.UNLIKE[level]:
                    both = [dots[at] for at in places] + [dots[at + 10] for at in places]
                    half = len(places)
                    self.assertFalse(is_harmless(size, level, both))
                    self.assertIs(is_harmless(size, level, both[1:]), staining.is_harmless(size, level, both[1:], ()))
                    self.assertFalse(is_harmless(size, level, (), both[:half]))
                    self.check_paper(size, level, (), both[:half])
                    self.check_paper(size, level, both[half:], both[:half])

    def test_nothing_and_borders(self):
        for size, level in PLACES:
            self.assertIs(is_harmless(size, level), True)
            self.assertIsNone(harm(size, level))
            edge = sorted(walking.border(size))
            self.assertIs(is_harmless(size, level, edge), True)
            self.assertIs(is_harmless(size, level, edge[::2], edge[1::2]), True)
            self.assertIsNone(harm(size, level, (), edge))

    def test_examples_of_the_path(self):
        self.assertIs(is_harmless(3, 0, path(3)[:32]), True)
        self.assertIs(is_harmless(3, 0, path(3)[:33]), False)

    def test_new_answers(self):
        self.assert_asked_anew(harm, 1, 0, [(2, 5)], [(3, 5), (5, 5)])
        lost, lying = [], [(2, 5)]
        self.assertFalse(is_harmless(1, 0, lost, lying))
        lying[0] = (0, 0)
        self.assertTrue(is_harmless(1, 0, lost, lying))
        lost.append((2, 5))
        self.assertTrue(is_harmless(1, 0, lost, lying))
        lost.append((3, 5))
        self.assertFalse(is_harmless(1, 0, lost, lying))


class CheckHarm(Asking):

    def refuse(self, part, paper, lost=((0, 0),), lying=((2, 5), (3, 5), (7, 7)), size=1, level=0):
        self.assert_refused(NoPaper, {"part": part}, check_harm, size, level, lost, lying, paper)

    def test_other_papers_than_the_told_one(self):
        dice = random.Random(3)
        kept = 0
        for size, level in PLACES * 4:
            lost, lying = near_stain(size, level, dice)
            for _ in range(4):
                mask, data = dice.choice(MASKS), random_data(size, level, dice)
                dots = dice.sample(lying, dice.randrange(len(lying) + 1))
                paper = (mask, dice.choice((list, tuple))(data), dice.choice((list, tuple))(dots))
                try:
                    told = read_words(stained(size, level, mask, data, lost, dots))[:4]
                except Unmended:
                    told = None
                if told == (size, level, mask, data):
                    self.refuse("told", paper, lost, lying, size, level)
                else:
                    self.assertIsNone(check_harm(size, level, lost, lying, paper))
                    kept += 1
        self.assertGreater(kept, 30)

    def test_paper(self):
        good = (0, (0, 0, 0), [(2, 5)])
        self.assertIsNone(check_harm(1, 0, (), [(2, 5)], good))
        for thing in odd_values() + [0, GREAT, list(good), good[:2], good + (0,), (good,), "abc"]:
            if not isinstance(thing, tuple) or len(thing) != 3:
                self.refuse("paper", thing)
        for thing in odd_values():
            if isinstance(thing, tuple) and len(thing) == 3:
                self.refuse("data" if thing[0] == 4 else "mask", thing)

    def test_mask(self):
        for thing in odd_values() + numbers_beyond(0, 7):
            self.refuse("mask", (thing, (0, 0, 0), [(2, 5)]))
            self.refuse("mask", (thing, None, None))

    def test_data(self):
        for thing in no_rows() + [0, (), [0, 0], (0, 0, 0, 0), "000", b"000"]:
            self.refuse("data", (0, thing, [(2, 5)]))
            self.refuse("data", (0, thing, None))
        for at, thing in enumerate(odd_values() + numbers_beyond(0, 15)):
            data = [0, 1, 2]
            data[at % 3] = thing
            self.refuse("data", (7, data, [(2, 5)]))
            self.refuse("data", (7, tuple(data), None))

    def test_dots(self):
        for thing in no_rows() + [0, GREAT]:
            self.refuse("dots", (0, (0, 0, 0), thing))
        for thing in no_dots(8) + [(0, 0), (1, 1), (5, 5)]:
            self.refuse("dots", (0, (0, 0, 0), [thing]))
            self.refuse("dots", (0, (0, 0, 0), ((2, 5), thing)))
            self.refuse("dots", (0, (0, 0, 0), [thing]), lying=())
        self.refuse("dots", (0, (0, 0, 0), [(2, 5), (2, 5)]))
        self.refuse("dots", (0, (0, 0, 0), ((3, 5), (2, 5), (3, 5))))
        # A lost dot is no lying one.
        self.refuse("dots", (0, (0, 0, 0), [(0, 0)]))

    def test_told(self):
        self.refuse("told", (0, (0, 0, 0), []))
        self.refuse("told", (0, [0, 0, 0], ((7, 7),)))
        for size, level in PLACES:
            data = (0,) * drawing.data_count(size, level)
            self.refuse("told", (3, data, []), (), (), size, level)
            self.refuse("mask", (8, data, []), (), (), size, level)
            self.refuse("data", (3, data + (0,), []), (), (), size, level)
            self.refuse("dots", (3, data, [(0, 0)]), (), (), size, level)
            self.refuse("paper", None, (), (), size, level)


# For each function with a stain: what is asked behind size and level ahead of the stain's parts, and their names.
STAINED = ((is_harmless, ("lost", "lying"), ()), (harm, ("lost", "lying"), ()),
           (check_harm, ("lost", "lying"), (None,)), (borne, ("dots",), ()), (lookalikes, ("lost",), ()),
           (are_lookalikes, ("lost",), (None,)), (fitting_count, ("lost",), ()))


class Errors(Asking):

    def test_no_size_and_no_level(self):
        calls = [(call, (None,) * len(parts) + more) for call, parts, more in STAINED]
        calls += [(call, (None,)) for call in (greatest_square, lines_borne, least_harmful)]
        calls.append((harmful_squares, (None, None)))
        for call, behind in calls:
            for size in NO_SIZES:
                self.assert_refused(NoSize, {"size": size}, call, size, None, *behind)
                self.assert_refused(NoSize, {"size": size}, call, size, 0, *behind)
            for level in NO_LEVELS:
                self.assert_refused(NoLevel, {"level": level}, call, 3, level, *behind)

    def test_no_stain(self):
        for call, parts, more in STAINED:
            for place, part in enumerate(parts):
                ahead = ([(0, 0), (4, 4)],) * place
                behind = (None,) * (len(parts) - place - 1) + more
                for thing in no_rows() + [0, GREAT, "ab"]:
                    self.assert_refused(NoStain, {"part": part, "index": -1}, call, 1, 0, *ahead, thing, *behind)
                for at, thing in enumerate(no_dots(8)):
                    dots = [(3, 3), (7, 7), (0, 5)][:at % 4] + [thing, None, (3, 3)]
                    told = {"part": part, "index": at % 4}
                    self.assert_refused(NoStain, told, call, 1, 0, *ahead, dots, *behind)
                    self.assert_refused(NoStain, told, call, 1, 0, *ahead, tuple(dots), *behind)

    def test_dots_that_were_there(self):
        for call, parts, more in STAINED:
            for place, part in enumerate(parts):
                ahead = ([(0, 0), (4, 4)],) * place
                behind = (None,) * (len(parts) - place - 1) + more
                for dots, index in (([(1, 1), (1, 1)], 1), (((2, 2), (3, 3), (2, 2), (3, 3)), 2)):
                    self.assert_refused(NoStain, {"part": part, "index": index}, call, 5, 3, *ahead, dots, *behind)
        for call in (is_harmless, harm):
            told = {"part": "lying", "index": 1}
            self.assert_refused(NoStain, told, call, 1, 0, [(0, 0), (5, 5)], ((1, 1), (5, 5), (0, 0)))
        told = {"part": "lying", "index": 0}
        self.assert_refused(NoStain, told, check_harm, 1, 0, [(0, 0)], [(0, 0)], None)

    def test_a_dot_of_a_greater_size(self):
        for size in SIZES:
            for dot in ((SIDES[size], 0), (0, SIDES[size])):
                for call, parts, more in STAINED:
                    told = {"part": parts[0], "index": 0}
                    self.assert_refused(NoStain, told, call, size, 0, [dot], *(None,) * (len(parts) - 1), *more)
