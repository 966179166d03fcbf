"""Points 50 to 52: pictures of symbols with a text."""

import random

from dotquilts.errors import NoLevel, NoSize, NoText, NoWish, TooLong
from dotquilts.pictures import check_drawing, drawing, masks_for, text_drawings, text_pattern, ways_to_draw
from dotquilts.symbols import read
from tests import drawing as own
from tests import summing, walking, writing
from tests.asking import Asking, no_texts, odd_values
from tests.drawing import MASKS
from tests.test_stains import NO_LEVELS, NO_SIZES
from tests.walking import DATA_BITS, LEVELS, SIDES, SIZES

PLACES = [(size, level) for size in SIZES for level in LEVELS]


def texts_for(many, dice):
    """Texts that have room in so many bits, some of them just so, and the empty one."""
    found = [""]
    for signs in ("0123456789", "ABC 01", writing.SIGNS):
        text = ""
        while writing.best(text)[0] <= many:
            found.append(text)
            text += dice.choice(signs)
    return found[:1] + found[-1:] + dice.sample(found, min(4, len(found)))


class Patterns(Asking):

    def test_all_sizes_and_levels(self):
        dice = random.Random(1)
        lefts = set()
        for size, level in PLACES:
            many = DATA_BITS[size][level]
            for text in texts_for(many, dice):
                bits = writing.bits_of(writing.best_pieces(text))
                left = many - len(bits)
                lefts.add(min(left, 3))
                self.assert_same(text_pattern(text, size, level), bits + [0, 0] if left >= 2 else bits)
        self.assertEqual(lefts, {0, 1, 2, 3})

    def test_read_whatever_stands_behind(self):
        dice = random.Random(2)
        for size, level in PLACES:
            for text in texts_for(DATA_BITS[size][level], dice):
                pattern = text_pattern(text, size, level)
                for _ in range(3):
                    bits = pattern + [dice.randrange(2) for _ in range(DATA_BITS[size][level] - len(pattern))]
                    self.assertEqual(writing.read(bits)[0], text)
                self.assert_same(ways_to_draw(size, level, 4, {}, bits=pattern),
                                 2 ** (DATA_BITS[size][level] - len(pattern)))

    def test_too_long(self):
        for size, level in PLACES:
            for sign in "0Aa":
                text = ""
                while writing.best(text)[0] <= DATA_BITS[size][level]:
                    text += sign
                told = {"bits": writing.best(text)[0] - DATA_BITS[size][level]}
                self.assert_refused(TooLong, told, text_pattern, text, size, level)
                self.assert_refused(TooLong, told, text_drawings, text, size, level, None)
        self.assert_refused(TooLong, {"bits": 1}, text_pattern, "A", 1, 0)

    def test_new_answers(self):
        self.assert_asked_anew(text_pattern, "HELLO", 2, 0)
        self.assert_same(text_pattern(text="7", size=1, level=0), [0, 1, 0, 0, 0, 0, 1, 0, 1, 1, 1])


class Drawings(Asking):

    def test_read_back_as_the_text(self):
        dice = random.Random(3)
        seen = {"data": 0, "clash": 0}
        for size, level in PLACES * 2:
            text = dice.choice(texts_for(DATA_BITS[size][level], dice))
            pattern = text_pattern(text, size, level)
            dots = dice.sample(walking.all_dots(size), dice.choice((0, 2, 5, SIDES[size])))
            wish = {dot: dice.randrange(2) for dot in dots}
            if dice.random() < 0.7:
                # Border dots as they are.
                wish = {dot: walking.border(size).get(dot, value) for dot, value in wish.items()}
            answers = text_drawings(text, size, level, wish)
            self.assertEqual([type(answers), len(answers)], [list, 8])
            for mask, answer in enumerate(answers):
                self.assert_same(answer, drawing(size, level, mask, wish, bits=pattern))
                self.assertIsNone(check_drawing(size, level, mask, wish, answer, bits=pattern))
                seen[answer[0]] += 1
                if answer[0] == "data":
                    grid = own.symbol_of(size, level, mask, answer[1])
                    self.assertEqual(read(grid)[:4], (text, size, level, mask))
                    self.assertTrue(all(grid[row][column] == value for (row, column), value in wish.items()))
            self.assertEqual([mask for mask in MASKS if answers[mask][0] == "data"],
                             masks_for(size, level, wish, bits=pattern))
        self.assertGreater(min(seen.values()), 50)

    def test_by_sums(self):
        dice = random.Random(4)
        for size, level in ((1, 0), (2, 1), (3, 2)) * 4:
            text = dice.choice(texts_for(DATA_BITS[size][level], dice))
            wish = {dot: dice.randrange(2) for dot in dice.sample(walking.PATHS[size], SIDES[size])}
            pattern = text_pattern(text, size, level)
            for mask, answer in enumerate(text_drawings(text, size, level, wish)):
                self.assertEqual(answer[0] == "data", summing.ways(size, level, mask, wish, pattern) > 0)

    def test_new_answers(self):
        wish = {(2, 5): 1, (0, 1): 0}
        self.assert_asked_anew(text_drawings, "7", 1, 0, wish)
        self.assert_asked_anew(text_drawings, "7", 1, 0, {(0, 1): 1})
        self.assertEqual(wish, {(2, 5): 1, (0, 1): 0})


class Errors(Asking):

    def test_in_their_order(self):
        for thing, index in no_texts():
            self.assert_refused(NoText, {"index": index}, text_pattern, thing, 0, 9)
            self.assert_refused(NoText, {"index": index}, text_drawings, thing, 0, 9, None)
        for size in NO_SIZES:
            self.assert_refused(NoSize, {"size": size}, text_pattern, "a" * 300, size, 9)
            self.assert_refused(NoSize, {"size": size}, text_drawings, "a" * 300, size, 9, None)
        for level in NO_LEVELS:
            self.assert_refused(NoLevel, {"level": level}, text_pattern, "a" * 300, 1, level)
            self.assert_refused(NoLevel, {"level": level}, text_drawings, "a" * 300, 1, level, None)
        for thing in odd_values():
            if not isinstance(thing, dict):
                self.assert_refused(NoWish, {"dot": None}, text_drawings, "7", 1, 0, thing)
        self.assert_refused(NoWish, {"dot": (8, 0)}, text_drawings, "7", 1, 0, {(0, 0): 1, (8, 0): 1})
        self.assert_refused(NoWish, {"dot": (5, 0)}, text_drawings, "7", 1, 0, {(0, 0): 1, (5, 0): 2})
