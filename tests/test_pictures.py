"""Points 44 to 48: drawing wishes, and clashes that show that they cannot be drawn."""

import random

from dotquilts.errors import NoAnswer, NoDots, NoLevel, NoMask, NoPattern, NoSize, NoWish
from dotquilts.pictures import (
    check_drawing, drawing, free_dots, masks_for, rank_of, sure_dots, tied, ways_to_draw,
)
from tests import drawing as own
from tests import reckoning, summing, walking
from tests.asking import GREAT, Asking, no_dots, no_rows, numbers_beyond, odd_values
from tests.drawing import FORMATS, MASKS
from tests.test_stains import NO_LEVELS, NO_SIZES, random_data
from tests.walking import BITS, DATA_BITS, LEVELS, PATHS, SIDES, SIZES

PLACES = [(size, level) for size in SIZES for level in LEVELS]
NO_MASKS = odd_values() + numbers_beyond(0, 7)
# Sizes and levels of which the tests reckon all sums by themselves.
SUMMED = [(size, level) for size, level in PLACES if size < 4] + [(4, 3), (5, 3)]


def random_question(size, level, dice, changes):
    """A mask, a wish and a pattern that a symbol has, but for so many changes."""
    mask = dice.choice(MASKS)
    data = random_data(size, level, dice)
    grid = own.symbol_of(size, level, mask, data)
    many = dice.choice((0, 3, SIDES[size], SIDES[size] ** 2 // 3, SIDES[size] ** 2))
    dots = dice.sample(walking.all_dots(size), min(many, SIDES[size] ** 2))
    wish = {dot: grid[dot[0]][dot[1]] for dot in dots}
    bits = summing.bits_of_words(size, data)
    share = dice.choice((0, 0.1, 0.5, 1))
    pattern = [bit if dice.random() < share else None for bit in bits[:dice.randrange(len(bits) + 1)]]
    for _ in range(changes):
        if wish and dice.random() < 0.7:
            wish[dice.choice(dots)] ^= 1
        elif pattern:
            pattern[dice.randrange(len(pattern))] = dice.randrange(2)
    return mask, wish, pattern


class SizeOne(Asking):

    def symbols(self, level, mask):
        """All grids, by rows gone through: the data words and the dict from dots to values."""
        found = []
        for row in reckoning.right_rows(own.code_of(1, level), 4):
            grid = own.drawn(1, level, mask, row)
            found.append((list(row[:len(row) - walking.CHECKS[1][level]]), grid))
        return found

    def check(self, level, mask, symbols, wish, bits):
        fitting = [(data, grid) for data, grid in symbols
                   if all(grid[row][column] == value for (row, column), value in wish.items())
                   and all(bit in (None, told) for bit, told in zip(bits, summing.bits_of_words(1, data)))]
        self.assert_same(ways_to_draw(1, level, mask, wish, bits=bits), len(fitting))
        answer = drawing(1, level, mask, wish, bits=bits)
        self.assertIsNone(check_drawing(1, level, mask, wish, answer, bits=bits))
        sure = sure_dots(1, level, mask, wish, bits=bits)
        if not fitting:
            self.assertEqual(answer[0], "clash")
            self.assertIsNone(sure)
            return 0
        self.assertEqual(answer[0], "data")
        self.assertIn(answer[1], [data for data, _ in fitting])
        same = {(row, column): fitting[0][1][row][column] for row, column in walking.all_dots(1)
                if len({grid[row][column] for _, grid in fitting}) == 1}
        self.assert_same(list(sure.items()), list(same.items()))
        return 1

    def test_all_levels_and_masks_against_all_symbols(self):
        dice = random.Random(1)
        for level, mask in FORMATS:
            symbols = self.symbols(level, mask)
            seen = [0, 0]
            for _ in range(14 if level else 5):
                grid = dice.choice(symbols)[1]
                dots = dice.sample(PATHS[1], dice.randrange(17)) + dice.sample(walking.all_dots(1), 1)
                wish = {dot: grid[dot[0]][dot[1]] for dot in dots}
                if dots and dice.random() < 0.5:
                    wish[dice.choice(dots)] ^= 1
                bits = [dice.choice((0, 1, None, None, None)) for _ in range(dice.randrange(DATA_BITS[1][level] + 1))]
                seen[self.check(level, mask, symbols, wish, dice.choice((list, tuple))(bits))] += 1
            self.assertGreater(min(seen), 0 if level else -1)

    def test_masks_for(self):
        dice = random.Random(2)
        lists = set()
        for level in LEVELS:
            symbols = {mask: self.symbols(level, mask) for mask in MASKS}
            for _ in range(12 if level else 4):
                dots = dice.sample(PATHS[1], dice.randrange(2, 10))
                wish = {dot: dice.randrange(2) for dot in dots}
                bits = [dice.choice((0, 1, None)) for _ in range(dice.randrange(4))]
                wanted = [mask for mask in MASKS if any(
                    all(grid[row][column] == value for (row, column), value in wish.items())
                    and all(bit in (None, told) for bit, told in zip(bits, summing.bits_of_words(1, data)))
                    for data, grid in symbols[mask])]
                self.assert_same(masks_for(1, level, wish, bits=bits), wanted)
                lists.add(tuple(wanted))
        self.assertGreater(len(lists), 8)


class AllSizes(Asking):

    def check_clash(self, size, level, mask, wish, bits, answer, dice):
        """The sum is the same in drawn symbols of the test's own, and another one in the wish and the pattern."""
        _, dots, indexes = answer
        self.assertEqual([type(answer), type(dots), type(indexes)], [tuple, list, list])
        self.assertEqual(len(set(dots)), len(dots))
        self.assertEqual(len(set(indexes)), len(indexes))
        told = (sum(wish[dot] for dot in dots) + sum(bits[index] for index in indexes)) % 2
        for _ in range(4):
            data = random_data(size, level, dice)
            grid = own.symbol_of(size, level, mask, data)
            shown = sum(grid[row][column] for row, column in dots)
            shown += sum(summing.bits_of_words(size, data)[index] for index in indexes)
            self.assertNotEqual(shown % 2, told)

    def check_data(self, size, level, mask, wish, bits, answer):
        _, data = answer
        self.assertEqual([type(answer), type(data)], [tuple, list])
        grid = own.symbol_of(size, level, mask, data)
        self.assertTrue(all(grid[row][column] == value for (row, column), value in wish.items()))
        self.assertTrue(all(bit in (None, told) for bit, told in zip(bits, summing.bits_of_words(size, data))))

    def test_drawn_and_clashing(self):
        dice = random.Random(3)
        seen = {"data": 0, "clash": 0}
        for size, level in PLACES * 6:
            mask, wish, bits = random_question(size, level, dice, dice.choice((0, 0, 1, 2, 6)))
            answer = drawing(size, level, mask, wish, bits=bits)
            self.assertEqual(len(answer), 2 if answer[0] == "data" else 3)
            if answer[0] == "data":
                self.check_data(size, level, mask, wish, bits, answer)
            else:
                self.check_clash(size, level, mask, wish, bits, answer, dice)
            self.assertIsNone(check_drawing(size, level, mask, wish, answer, bits=bits))
            self.assertEqual(drawing(size, level, mask, dict(reversed(wish.items())), bits=bits), answer)
            self.assertEqual(drawing(size, level, mask, wish, bits=tuple(bits)), answer)
            self.assertEqual(mask in masks_for(size, level, wish, bits=bits), answer[0] == "data")
            self.assertEqual(ways_to_draw(size, level, mask, wish, bits=bits) > 0, answer[0] == "data")
            seen[answer[0]] += 1
        self.assertGreater(min(seen.values()), 30)

    def test_ways_and_sure_dots_by_sums(self):
        dice = random.Random(4)
        for size, level in SUMMED * 3:
            mask, wish, bits = random_question(size, level, dice, dice.choice((0, 0, 1)))
            ways = summing.ways(size, level, mask, wish, bits)
            self.assert_same(ways_to_draw(size, level, mask, wish, bits=bits), ways)
            wanted = summing.sure_dots(size, level, mask, wish, bits)
            told = sure_dots(size, level, mask, wish, bits=bits)
            if wanted is None:
                self.assertIsNone(told)
            else:
                self.assert_same(list(told.items()), list(wanted.items()))
            masks = [other for other in MASKS if summing.ways(size, level, other, wish, bits)]
            self.assert_same(masks_for(size, level, wish, bits=bits), masks)

    def test_nothing_wished(self):
        for size, level in PLACES:
            for mask in (0, 6):
                self.assert_same(ways_to_draw(size, level, mask, {}), 2 ** DATA_BITS[size][level])
                self.assertEqual(drawing(size, level, mask, {})[0], "data")
                grid = own.symbol_of(size, level, mask, [0] * own.data_count(size, level))
                fixed = {dot: grid[dot[0]][dot[1]] for dot in walking.all_dots(size) if dot not in PATHS[size]}
                self.assert_same(list(sure_dots(size, level, mask, {}).items()), list(fixed.items()))
            self.assert_same(masks_for(size, level, {}), list(MASKS))

    def test_patterns_alone(self):
        """With m told bits there are 2 ** (data bits - m) rows; bits behind a pattern are free."""
        dice = random.Random(5)
        for size, level in PLACES:
            many = DATA_BITS[size][level]
            bits = [dice.choice((0, 1, None)) for _ in range(dice.randrange(many + 1))]
            told = len(bits) - bits.count(None)
            self.assert_same(ways_to_draw(size, level, 1, {}, bits=bits), 2 ** (many - told))
            whole = [dice.randrange(2) for _ in range(many)]
            self.assert_same(drawing(size, level, 2, {}, bits=whole), ("data", summing.words_of_bits(size, whole)))

    def test_a_dot_and_a_bit_that_clash(self):
        for size, level in PLACES:
            data = [0] * own.data_count(size, level)
            grid = own.symbol_of(size, level, 3, data)
            # The first data bit stands in the first dot of the path.
            dot = PATHS[size][0]
            value = grid[dot[0]][dot[1]]
            self.assert_same(drawing(size, level, 3, {dot: value}, bits=[1]), ("clash", [dot], [0]))
            self.assertEqual(drawing(size, level, 3, {dot: value}, bits=[0])[0], "data")
            self.assert_same(ways_to_draw(size, level, 3, {dot: 1 - value}, bits=[0]), 0)
            self.assertIsNone(sure_dots(size, level, 3, {dot: 1 - value}, bits=[0]))

    def test_border_and_format_dots(self):
        for size, level in PLACES:
            for mask in (2, 7):
                grid = own.symbol_of(size, level, mask, [0] * own.data_count(size, level))
                for dot in [(0, 0), (0, 1), (SIDES[size] - 1, 3)] + own.FORMAT_DOTS[size][::7]:
                    value = grid[dot[0]][dot[1]]
                    self.assertEqual(drawing(size, level, mask, {dot: value})[0], "data")
                    self.assert_same(drawing(size, level, mask, {dot: 1 - value}), ("clash", [dot], []))
                    self.assert_same(ways_to_draw(size, level, mask, {dot: 1 - value}), 0)

    def test_facts(self):
        dice = random.Random(6)
        for size, level in PLACES:
            mask, wish, bits = random_question(size, level, dice, 0)
            ways = ways_to_draw(size, level, mask, wish, bits=bits)
            for dot in list(wish)[:3]:
                less = {other: wish[other] for other in wish if other != dot}
                self.assertIn(ways_to_draw(size, level, mask, less, bits=bits), (ways, 2 * ways))
            self.assert_same(rank_of(size, level, PATHS[size]), DATA_BITS[size][level])

    def test_new_answers(self):
        wish = {(2, 5): 1, (0, 0): 1, (5, 5): 0}
        for call in (drawing, sure_dots):
            self.assert_asked_anew(call, 1, 1, 2, wish, bits=[None, 1])
            self.assert_asked_anew(call, 5, 0, 2, {})
        self.assert_asked_anew(drawing, 1, 3, 0, {(0, 1): 1})
        self.assert_asked_anew(masks_for, 1, 1, wish)
        self.assertEqual(wish, {(2, 5): 1, (0, 0): 1, (5, 5): 0})
        before = drawing(1, 1, 2, wish)
        wish[(0, 0)] = 0
        self.assertEqual(drawing(1, 1, 2, wish), ("clash", [(0, 0)], []))
        wish[(0, 0)] = 1
        self.assertEqual(drawing(1, 1, 2, wish), before)

    def test_examples(self):
        got = [drawing(1, 3, 0, {(0, 1): 1}), ways_to_draw(1, 3, 0, {(0, 1): 0})]
        self.assertEqual(repr(got), "[('clash', [(0, 1)], []), 16]")


class CheckDrawing(Asking):

    def refuse(self, part, index, answer, wish=None, bits=(), size=1, level=0, mask=0):
        wish = {} if wish is None else wish
        self.assert_refused(NoAnswer, {"part": part, "index": index}, check_drawing, size, level, mask, wish, answer,
                            bits=bits)

    def test_answer(self):
        wrong = [("data",), ("data", [0, 0, 0], []), ("clash", []), ("clash", [], [], []), ("clash",), ("", []),
                 ["data", [0, 0, 0]], ["clash", [], []], ("Data", [0, 0, 0]), (b"data", [0, 0, 0]),
                 (0, [0, 0, 0]), ([], [], []), "ab", "abc", (("data",), [0, 0, 0])]
        for thing in odd_values() + wrong:
            self.refuse("answer", -1, thing)

    def test_data(self):
        for thing in no_rows() + [0, GREAT, (), [0, 0], (0, 0, 0, 0), "000"]:
            self.refuse("data", -1, ("data", thing))
        for at, thing in enumerate(odd_values() + numbers_beyond(0, 15)):
            data = [0, 0, 0]
            data[at % 3] = thing
            self.refuse("data", at % 3, ("data", data), {(0, 0): 0}, [1])
            self.refuse("data", at % 3, ("data", tuple(data[:at % 3 + 1] + [None] * (2 - at % 3))))
        for thing in numbers_beyond(0, 255):
            self.refuse("data", 1, ("data", [0, thing] + [0] * 16), size=3)

    def test_bits_and_wish(self):
        dice = random.Random(7)
        for size, level in PLACES:
            mask = dice.choice(MASKS)
            data = random_data(size, level, dice)
            grid = own.symbol_of(size, level, mask, data)
            bits = summing.bits_of_words(size, data)
            dots = sorted(dice.sample(walking.all_dots(size), 20))
            wish = {dot: grid[dot[0]][dot[1]] for dot in dice.sample(dots, 20)}
            for answer in (("data", data), ("data", tuple(data))):
                self.assertIsNone(check_drawing(size, level, mask, wish, answer, bits=bits))
                at = dice.randrange(len(bits))
                wrong = bits[:at] + [1 - bits[at]] + [None] * 2
                index = dice.randrange(20)
                spoilt = dict(wish)
                for dot in dots[index:]:
                    spoilt[dot] ^= 1
                self.refuse("bits", at, answer, spoilt, wrong[:len(bits)], size, level, mask)
                self.refuse("wish", index, answer, spoilt, bits, size, level, mask)

    def test_clash(self):
        wish, bits = {(0, 1): 1, (2, 5): 0, (7, 7): 1}, [None, 1, 0]
        for dots in ([(0, 1)], ((0, 1),), [(7, 7), (0, 1)], [(0, 1), (7, 7)]):
            for indexes in ([], ()):
                self.assertIsNone(check_drawing(1, 0, 0, wish, ("clash", dots, indexes), bits=bits))
        for thing in no_rows() + [0, "ab"]:
            self.refuse("dots", -1, ("clash", thing, None), wish, bits)
            self.refuse("indexes", -1, ("clash", [(0, 1)], thing), wish, bits)
        for thing in no_dots(8) + [(0, 0), (5, 5), (0, 2)]:
            self.refuse("dots", 0, ("clash", [thing, None], None), wish, bits)
            self.refuse("dots", 2, ("clash", ((0, 1), (2, 5), thing), None), wish, bits)
        self.refuse("dots", 1, ("clash", [(0, 1), (0, 1)], None), wish, bits)
        for thing in odd_values() + [-1, 3, 0, GREAT, -GREAT]:
            self.refuse("indexes", 0, ("clash", [(0, 1)], [thing, None]), wish, bits)
            self.refuse("indexes", 1, ("clash", [(2, 5)], (2, thing)), wish, bits)
        self.refuse("indexes", 2, ("clash", [], [1, 2, 1]), wish, bits)
        self.refuse("indexes", 0, ("clash", [], [0]), wish, ())

    def test_free_and_even(self):
        wish, bits = {(0, 1): 1, (2, 5): 0, (7, 7): 1}, [None, 1, 0]
        self.refuse("free", -1, ("clash", [(2, 5)], []), wish, bits)
        self.refuse("free", -1, ("clash", [(0, 1), (2, 5)], ()), wish, bits)
        self.refuse("free", -1, ("clash", [], [1]), wish, bits)
        self.refuse("even", -1, ("clash", [(7, 7)], []), wish, bits)
        self.refuse("even", -1, ("clash", [], ()), wish, bits)

    def test_other_answers_than_the_told_one(self):
        """Clashes of drawn sums of the test's own: those of a wish and a pattern, of one of both, in any order."""
        dice = random.Random(8)
        seen = {"free": 0, "even": 0, None: 0}
        for size, level in SUMMED * 8:
            mask = dice.choice(MASKS)
            many = DATA_BITS[size][level]
            plain = summing.plain_symbol(size, level, mask)
            dots = dice.sample(PATHS[size], dice.randrange(1, 4)) + dice.sample(walking.all_dots(size), 1)
            dots = sorted(set(dots), key=lambda dot: dice.random())
            total = 0
            for dot in dots:
                total ^= summing.vectors(size, level)[dot]
            indexes = [at for at in range(many) if total >> at & 1]
            if dice.random() < 0.3:
                indexes = dice.sample(range(many), 1)
            dice.shuffle(indexes)
            wish = {dot: dice.randrange(2) for dot in dots}
            bits = [dice.randrange(2) for _ in range(many)]
            wanted = None
            if sum(1 << at for at in indexes) != total:
                wanted = "free"
            elif (sum(wish[dot] ^ plain[dot[0]][dot[1]] for dot in dots) + sum(bits[at] for at in indexes)) % 2 == 0:
                wanted = "even"
            answer = ("clash", dice.choice((list, tuple))(dots), dice.choice((list, tuple))(indexes))
            seen[wanted] += 1
            if wanted is None:
                self.assertIsNone(check_drawing(size, level, mask, wish, answer, bits=bits))
            else:
                self.refuse(wanted, -1, answer, wish, bits, size, level, mask)
        self.assertGreater(min(seen.values()), 10)


class Free(Asking):

    def test_by_sums(self):
        dice = random.Random(9)
        ties = 0
        for size, level in SUMMED * 4:
            within = dice.choice((walking.all_dots(size), PATHS[size], PATHS[size][:60], PATHS[size][-90:]))
            dots = dice.sample(within, dice.randrange(len(within) + 1))
            wanted = summing.free_dots(size, level, dots)
            self.assert_same(free_dots(size, level, dots), wanted)
            self.assert_same(free_dots(size, level, tuple(dots)), wanted)
            self.assert_same(rank_of(size, level, dots), len(wanted))
            self.assert_same(rank_of(size, level, sorted(dots)), len(wanted))
            told = tied(size, level, dots)
            if len(wanted) == len(dots):
                self.assertIsNone(told)
                continue
            ties += 1
            first = [at for at, dot in enumerate(dots) if dot not in wanted][0]
            self.assertIs(type(told), list)
            self.assertEqual(told, sorted(told))
            self.assertIn(dots[first], told)
            self.assertLessEqual(set(told), set(dots[:first + 1]))
            total = 0
            for dot in told:
                total ^= summing.vectors(size, level)[dot]
            self.assertEqual(total, 0)
        self.assertGreater(ties, 20)

    def test_border_and_format_dots(self):
        for size, level in PLACES:
            for dot in [(0, 3), (4, 0)] + own.FORMAT_DOTS[size][4:9]:
                self.assert_same(free_dots(size, level, [PATHS[size][7], dot]), [PATHS[size][7]])
                self.assert_same(rank_of(size, level, [dot]), 0)
                self.assert_same(tied(size, level, [PATHS[size][7], dot, PATHS[size][0]]), [dot])

    def test_a_whole_block_is_tied(self):
        for size, level in PLACES:
            # Behind all data bits, any bit of a check word is the sum of some of them.
            own_words = [drawing_dot for block in range(len(walking.BLOCKS[size]))
                         for at in range(walking.BLOCKS[size][block] - walking.CHECKS[size][level])
                         for drawing_dot in own.word_dots(size, level, block, at)]
            self.assert_same(free_dots(size, level, own_words), own_words)
            self.assertIsNone(tied(size, level, own_words))
            last = own.word_dots(size, level, 0, walking.BLOCKS[size][0] - 1)[0]
            self.assertIn(last, tied(size, level, own_words + [last]))
            self.assert_same(rank_of(size, level, own_words + [last]), DATA_BITS[size][level])
            self.assertIsNone(tied(size, level, ()))
            self.assert_same(free_dots(size, level, ()), [])

    def test_new_answers(self):
        self.assert_asked_anew(free_dots, 2, 1, PATHS[2][:9])
        self.assert_asked_anew(tied, 2, 1, PATHS[2])
        dots = [(0, 0)]
        self.assertEqual(rank_of(2, 1, dots), 0)
        dots.append(PATHS[2][0])
        self.assertEqual(rank_of(size=2, level=1, dots=dots), 1)


class Errors(Asking):

    ASKED = (drawing, ways_to_draw, sure_dots)

    def test_no_size_level_or_mask(self):
        for size in NO_SIZES:
            for call in self.ASKED:
                self.assert_refused(NoSize, {"size": size}, call, size, None, None, None, bits=None)
            self.assert_refused(NoSize, {"size": size}, check_drawing, size, None, None, None, None, bits=None)
            self.assert_refused(NoSize, {"size": size}, masks_for, size, None, None, bits=None)
            for call in (free_dots, rank_of, tied):
                self.assert_refused(NoSize, {"size": size}, call, size, None, None)
        for level in NO_LEVELS:
            for call in self.ASKED:
                self.assert_refused(NoLevel, {"level": level}, call, 1, level, None, None, bits=None)
            self.assert_refused(NoLevel, {"level": level}, check_drawing, 1, level, None, None, None, bits=None)
            self.assert_refused(NoLevel, {"level": level}, masks_for, 1, level, None, bits=None)
            for call in (free_dots, rank_of, tied):
                self.assert_refused(NoLevel, {"level": level}, call, 1, level, None)
        for mask in NO_MASKS:
            for call in self.ASKED:
                self.assert_refused(NoMask, {"mask": mask}, call, 1, 0, mask, None, bits=None)
            self.assert_refused(NoMask, {"mask": mask}, check_drawing, 1, 0, mask, None, None, bits=None)

    def refuse(self, error, fields, wish, bits=()):
        for call in self.ASKED:
            self.assert_refused(error, fields, call, 1, 0, 0, wish, bits=bits)
        self.assert_refused(error, fields, check_drawing, 1, 0, 0, wish, None, bits=bits)
        self.assert_refused(error, fields, masks_for, 1, 0, wish, bits=bits)

    def test_no_wish(self):
        for thing in odd_values() + [0, 1, GREAT, [((0, 0), 1)], (((0, 0), 1),)]:
            if not isinstance(thing, dict):
                self.refuse(NoWish, {"dot": None}, thing, None)
        for thing in no_dots(8):
            try:
                hash(thing)
            except TypeError:
                continue
            self.refuse(NoWish, {"dot": thing}, {(3, 3): 1, thing: 0, (0, 0): None}, None)
        for at, thing in enumerate(odd_values() + numbers_beyond(0, 1)):
            wish = {(6, 6): 1, (0, at % 8): 0}
            wish[5, 5] = thing
            wish[4, 4] = None
            self.refuse(NoWish, {"dot": (5, 5)}, wish, None)
        self.refuse(NoWish, {"dot": 4}, {4: 4})

    def test_the_first_key_is_told(self):
        self.refuse(NoWish, {"dot": (9, 9)}, {(9, 9): 1, (0, 0): 2})
        self.refuse(NoWish, {"dot": (0, 0)}, {(0, 0): 2, (9, 9): 1})

    def test_no_pattern(self):
        for thing in no_rows() + [0, GREAT, [0] * 13, (None,) * 13, "01", [None] * 100]:
            self.refuse(NoPattern, {"index": -1}, {(0, 0): 0}, thing)
        for at, thing in enumerate(odd_values() + numbers_beyond(0, 1)):
            if thing is not None:
                bits = [0, None, 1, 1, 0, None][:at % 6] + [thing, 7]
                self.refuse(NoPattern, {"index": at % 6}, {}, bits)
                self.refuse(NoPattern, {"index": at % 6}, {}, tuple(bits))
        for size, level in PLACES:
            many = DATA_BITS[size][level]
            self.assertEqual(drawing(size, level, 0, {}, bits=[None] * many)[0], "data")
            for call in self.ASKED:
                self.assert_refused(NoPattern, {"index": -1}, call, size, level, 0, {}, bits=[None] * (many + 1))

    def test_no_dots(self):
        for call in (free_dots, rank_of, tied):
            for thing in no_rows() + [0, GREAT, "ab"]:
                self.assert_refused(NoDots, {"index": -1}, call, 1, 0, thing)
            for at, thing in enumerate(no_dots(8)):
                dots = [(3, 3), (7, 7), (0, 5)][:at % 4] + [thing, None, (3, 3)]
                self.assert_refused(NoDots, {"index": at % 4}, call, 1, 0, dots)
                self.assert_refused(NoDots, {"index": at % 4}, call, 1, 0, tuple(dots))
            self.assert_refused(NoDots, {"index": 2}, call, 1, 0, [(3, 3), (0, 0), (3, 3), None])
            # Behind a dot that is tied others are looked at, too.
            self.assert_refused(NoDots, {"index": 1}, call, 1, 0, [(0, 0), (0, 8)])
