"""Point 13: twins, and all right rows that are near to a row."""

import random
import unittest

from dotquilts.codes import check_words, is_twins, rows_within, twins
from dotquilts.errors import NoNumber, NoWord, TooLarge
from tests import reckoning
from tests.asking import Asking, odd_values
from tests.reckoning import SPANS

GREAT = 10 ** 400
CODE = (4, 2, 0)


class Twins(Asking):

    def check_twins(self, code, length, lies, gaps):
        answer = twins(code, length, lies, gaps)
        if 2 * lies + gaps <= code[1]:
            self.assertIsNone(answer)
            return
        self.assertIs(type(answer), tuple)
        self.assertEqual([type(part) for part in answer], [list, list, list])
        self.assertTrue(reckoning.are_twins(code, length, lies, gaps, answer))
        for part in answer:
            for word in part:
                self.assertTrue(word is None or (type(word) is int and 0 <= word < SPANS[code[0]]))
        self.assertNotIn(None, answer[1] + answer[2])
        self.assert_same(is_twins(code, length, lies, gaps, answer), True)
        self.assert_same(is_twins(code, length, lies, gaps, tuple(tuple(part) for part in answer)), True)

    def test_all_numbers_of_short_rows(self):
        for code in ((4, 1, 0), (4, 2, 5), (4, 3, 14), (8, 1, 254), (8, 2, 7)):
            for length in (code[1] + 1, code[1] + 2, code[1] + 4):
                for lies in range(length + 1):
                    for gaps in range(length + 1):
                        self.check_twins(code, length, lies, gaps)

    def test_just_at_and_beyond_the_bound(self):
        for code in ((4, 5, 3), (4, 14, 0), (8, 39, 100), (8, 40, 254)):
            many, most = code[1], SPANS[code[0]] - 1
            for length in (many + 1, (many + 1 + most) // 2, most):
                for gaps in sorted({0, 1, 2, many // 2, many - 1, many, many + 1, length - 1, length}):
                    lies = max(many - gaps, 0) // 2
                    self.check_twins(code, length, lies, gaps)
                    self.check_twins(code, length, lies + 1, gaps)
                    self.check_twins(code, length, length, gaps)

    def test_arguments_by_name(self):
        self.assertIsNone(twins(gaps=0, lies=1, length=3, code=CODE))
        answer = ((None, 3, 0), (0, 0, 0), (1, 3, 2))
        self.assertIs(is_twins(answer=answer, gaps=1, lies=1, length=3, code=CODE), True)

    def test_examples(self):
        self.assertIsNone(twins(CODE, 3, 1, 0))
        self.assert_same(is_twins(CODE, 3, 1, 1, ((None, 3, 0), (0, 0, 0), (1, 3, 2))), True)

    def test_answers_are_new(self):
        self.assert_asked_anew(twins, CODE, 3, 1, 1)
        self.assert_asked_anew(twins, CODE, 5, 0, 4)
        self.assert_asked_anew(twins, CODE, 4, 4, 0)


class IsTwins(Asking):

    def check(self, wanted, lies, gaps, answer, code=CODE, length=3):
        self.assert_same(is_twins(code, length, lies, gaps, answer), wanted)

    def test_lists_and_tuples(self):
        self.check(True, 1, 1, ([None, 3, 0], [0, 0, 0], [1, 3, 2]))
        self.check(True, 1, 1, ([None, 3, 0], (0, 0, 0), [1, 3, 2]))
        self.check(True, 1, 1, ((None, 3, 0), (1, 3, 2), (0, 0, 0)))
        self.check(False, 1, 1, [[None, 3, 0], [0, 0, 0], [1, 3, 2]])

    def test_too_many_lies(self):
        self.check(False, 0, 1, ((None, 3, 0), (0, 0, 0), (1, 3, 2)))
        self.check(False, 1, 1, ((None, 3, 2), (0, 0, 0), (1, 3, 2)))
        self.check(False, 1, 1, ((None, 0, 0), (0, 0, 0), (1, 3, 2)))
        self.check(True, 2, 1, ((None, 3, 2), (0, 0, 0), (1, 3, 2)))
        self.check(True, 3, 1, ((None, 3, 0), (0, 0, 0), (1, 3, 2)))
        self.check(True, 2, 0, ((1, 3, 0), (0, 0, 0), (1, 3, 2)))
        self.check(False, 1, 0, ((1, 3, 0), (0, 0, 0), (1, 3, 2)))

    def test_other_numbers_of_gaps(self):
        answer = ((None, 3, 0), (0, 0, 0), (1, 3, 2))
        for gaps in (0, 2, 3):
            self.check(False, 3, gaps, answer)
        self.check(True, 0, 3, ((None, None, None), (0, 0, 0), (1, 3, 2)))
        self.check(False, 0, 2, ((None, None, None), (0, 0, 0), (1, 3, 2)))

    def test_like_rows(self):
        self.check(False, 3, 1, ((None, 3, 2), (1, 3, 2), (1, 3, 2)))
        self.check(False, 3, 1, ((None, 3, 2), (1, 3, 2), [1, 3, 2]))
        row = [1, 3, 2]
        self.check(False, 3, 1, ((None, 3, 2), row, row))

    def test_wrong_rows(self):
        self.check(False, 3, 1, ((None, 3, 0), (0, 0, 0), (1, 3, 3)))
        self.check(False, 3, 1, ((None, 3, 0), (0, 0, 1), (1, 3, 2)))
        self.check(False, 3, 1, ((None, 3, 0), (None, 0, 0), (1, 3, 2)))
        self.check(False, 3, 1, ((None, 3, 0), (0, 0, 0), (1, 3, None)))
        self.check(False, 3, 1, ((None, 3, 16), (0, 0, 0), (1, 3, 2)))
        self.check(False, 3, 1, ((None, -1, 0), (0, 0, 0), (1, 3, 2)))
        self.check(False, 3, 1, ((None, 3, 0), (False, 0, 0), (1, 3, 2)))
        self.check(False, 3, 1, ((None, 3, 0), (0, 0, 0), (True, 3, 2)))
        self.check(False, 3, 1, ((None, True, 0), (0, 0, 0), (1, 3, 2)))

    def test_other_lengths(self):
        good = ((None, 3, 0), (0, 0, 0), (1, 3, 2))
        for part in range(3):
            for words in ((), (0,), (0, 0), (0, 0, 0, 0), good[part] + (0,), good[part][:2], (0,) * 16):
                answer = list(good)
                answer[part] = words
                self.check(False, 3, 1, tuple(answer))
        longer = tuple((0,) + part for part in good)
        self.check(False, 3, 1, longer)
        self.check(True, 1, 1, longer, length=4)
        self.check(False, 1, 1, good, length=4)

    def test_other_numbers_of_parts(self):
        good = ((None, 3, 0), (0, 0, 0), (1, 3, 2))
        self.check(False, 3, 1, good[:2])
        self.check(False, 3, 1, good + ((0, 0, 0),))
        self.check(False, 3, 1, ())

    def test_other_codes(self):
        answer = ((None, 3, 0), (0, 0, 0), (1, 3, 2))
        self.check(False, 3, 1, answer, code=(4, 2, 1))
        self.check(False, 3, 1, answer, code=(8, 2, 1))
        self.check(True, 3, 1, answer, code=(8, 2, 0))
        self.check(True, 3, 1, answer, code=(4, 1, 0))

    def test_any_value(self):
        for thing in odd_values() + [-1, 16, GREAT]:
            self.check(False, 1, 1, thing)
            self.check(False, 3, 3, (thing, thing, thing))
            self.check(False, 3, 1, (thing, (0, 0, 0), (1, 3, 2)))
            self.check(False, 3, 1, ((None, 3, 0), thing, (1, 3, 2)))
            self.check(False, 3, 1, ((None, 3, 0), (0, 0, 0), thing))
            self.check(False, 3, 1, ((None, 3, 0), (thing, 0, 0), (1, 3, 2)))
            self.check(False, 3, 1, ((None, 3, 0), (0, 0, 0), [1, 3, thing]))
            self.check(False, 3, 0, ([thing, 3, 0], (0, 0, 0), [1, 3, 2]))
            self.check(False, 3, 0, ([1, 3, thing], (0, 0, 0), [1, 3, 2]))

    def test_words_of_eight_bits(self):
        code = (8, 40, 200)
        zero, one = [0] * 255, [0] * 214 + [1] + check_words(code, [0] * 214 + [1])
        row = [None if at in (220, 230) else word for at, word in enumerate(one)]
        row[240:] = zero[240:]
        self.check(False, 23, 2, (row, zero, one), code, 255)
        self.check(True, 24, 2, (row, zero, one), code, 255)
        one[0] = 1
        self.check(False, 255, 2, (row, zero, one), code, 255)


class TwinsRefusals(Asking):

    def check(self, part, code, length, lies, gaps):
        self.assert_refused(NoNumber, {"part": part}, twins, code, length, lies, gaps)
        self.assert_refused(NoNumber, {"part": part}, is_twins, code, length, lies, gaps, None)

    def test_no_length(self):
        for code in ((4, 1, 0), (4, 14, 0), (8, 1, 0), (8, 40, 0)):
            for length in odd_values() + [-1, 0, 1, code[1], SPANS[code[0]], GREAT]:
                self.check("length", code, length, None, None)

    def test_no_lies_and_no_gaps(self):
        for code, length in ((CODE, 3), (CODE, 15), ((8, 5, 5), 30)):
            for number in odd_values() + [-1, length + 1, GREAT, -GREAT]:
                self.check("lies", code, length, number, None)
                self.check("gaps", code, length, 0, number)
                self.check("gaps", code, length, length, number)


class RowsWithin(Asking):

    def check_rows(self, code, row, numbers):
        rights = reckoning.right_rows(code, len(row))
        for most in numbers:
            wanted = [right for right in rights if len(reckoning.unlike(row, right)) <= most]
            self.assert_same(rows_within(code, row, most), wanted)
            self.assert_same(rows_within(code, tuple(row), most), wanted)

    def test_rows_of_four_bits(self):
        dice = random.Random(18)
        for code, length in (((4, 1, 0), 2), ((4, 2, 14), 4), ((4, 1, 7), 4), ((4, 13, 3), 15), ((4, 12, 9), 15)):
            for gaps in (0, 1, 2):
                row = [dice.randrange(16) for _ in range(length)]
                for place in dice.sample(range(length), gaps):
                    row[place] = None
                self.check_rows(code, row, (0, 1, 2, length - 2, length - 1, length, length + 1, 99, GREAT))

    def test_rows_of_eight_bits(self):
        dice = random.Random(19)
        for code in ((8, 1, 0), (8, 6, 254), (8, 40, 60)):
            length = code[1] + 1
            row = [dice.randrange(256) for _ in range(length)]
            self.check_rows(code, row, (0, 1, length - 1, length, length + 1, GREAT))
            row[0] = None
            self.check_rows(code, row, (0, 1, length - 2, length - 1, length))

    def test_rows_near_right_ones(self):
        code = (4, 3, 11)
        for right in reckoning.right_rows(code, 5)[::37]:
            row = list(right)
            self.check_rows(code, row, (0,))
            row[1] ^= 3
            self.check_rows(code, row, (0, 1, 2))
            row[4] = None
            self.check_rows(code, row, (0, 1, 2, 3))

    def test_all_numbers_of_words(self):
        """From 0 on to more than there are, for any rows and for such near right ones, with gaps and without."""
        dice = random.Random(20)
        codes = (((4, 14, 5), 15), ((4, 3, 0), 4), ((4, 13, 14), 15), ((4, 4, 6), 6), ((4, 2, 1), 5), ((4, 12, 8), 15),
                 ((8, 3, 200), 4), ((8, 40, 17), 41))
        for code, length in codes:
            rights = reckoning.right_rows(code, length)
            for lies, gaps in ((0, 0), (1, 0), (2, 1), (0, 2), (length, 0), (length, 1), (length, length - 1)):
                row = list(dice.choice(rights))
                for place in dice.sample(range(length), lies):
                    row[place] = dice.randrange(SPANS[code[0]])
                for place in dice.sample(range(length), gaps):
                    row[place] = None
                self.check_numbers(code, row, rights)

    def check_numbers(self, code, row, rights):
        far = [len(reckoning.unlike(row, right)) for right in rights]
        for most in list(range(4)) + list(range(len(row) - 3, len(row) + 2)) + [GREAT]:
            wanted = [right for right, many in zip(rights, far) if many <= most]
            self.assertEqual(rows_within(code, row, most), wanted)

    def test_gaps_among_the_data_words_and_elsewhere(self):
        code = (4, 3, 9)
        rights = reckoning.right_rows(code, 6)
        for places in ((0,), (1,), (2,), (3,), (5,), (0, 1), (0, 2), (1, 2), (2, 4), (0, 1, 2), (3, 4, 5), (0, 1, 2, 5),
                       (1, 2, 3, 5), (0, 1, 2, 3, 4, 5)):
            row = list(rights[1234])
            row[4] ^= 7
            for place in places:
                row[place] = None
            self.check_numbers(code, row, rights)

    def test_no_row_is_told_twice(self):
        row = [3, 1, 4, 1]
        for most in range(6):
            got = rows_within((4, 1, 0), row, most)
            self.assert_same(got, sorted(got))
            self.assertEqual(len({tuple(right) for right in got}), len(got))
        for right in got:
            right.clear()
        self.assertEqual(len(rows_within((4, 1, 0), row, 4)), 4096)

    def test_gaps_everywhere(self):
        for most in (0, 1, 3):
            self.assertEqual(rows_within(CODE, [None] * 3, most), reckoning.right_rows(CODE, 3))

    def test_three_data_words_of_four_bits_do(self):
        for code, length in (((4, 1, 0), 4), ((4, 12, 0), 15), ((8, 1, 0), 2), ((8, 40, 0), 41)):
            self.assertEqual(len(rows_within(code, [0] * length, length)), 4096 if code[0] == 4 else 256)

    def test_examples(self):
        self.assert_same(rows_within(CODE, (1, 3, 0), 1), [[1, 3, 2]])

    def test_arguments_by_name(self):
        self.assertEqual(rows_within(most=1, row=(1, 3, 0), code=CODE), [[1, 3, 2]])

    def test_answers_are_new_and_arguments_stay(self):
        row = [1, None, 0]
        self.assert_asked_anew(rows_within, CODE, row, 2)
        self.assertEqual(row, [1, None, 0])

    def test_a_changed_list_is_asked_anew(self):
        row = [1, 3, 0]
        self.assertEqual(rows_within(CODE, row, 0), [])
        row[2] = 2
        self.assertEqual(rows_within(CODE, row, 0), [[1, 3, 2]])


class RowsWithinRefusals(Asking):

    def test_no_row(self):
        things = [thing for thing in odd_values() if not isinstance(thing, (list, tuple))] + [0, 3]
        for thing in things + [(), [0], [0, 0], [0] * 16, ("no",) * 300]:
            self.assert_refused(NoWord, {"part": "row", "index": -1}, rows_within, CODE, thing, None)

    def test_no_word(self):
        things = [thing for thing in odd_values() if thing is not None] + [-1, 16, GREAT]
        for at, thing in enumerate(things):
            row = [None, 0, 1, "no"]
            row[at % 3] = thing
            self.assert_refused(NoWord, {"part": "row", "index": at % 3}, rows_within, CODE, row, None)

    def test_no_number(self):
        for most in odd_values() + [-1, -GREAT]:
            self.assert_refused(NoNumber, {"part": "most"}, rows_within, CODE, (1, 3, 0), most)
            self.assert_refused(NoNumber, {"part": "most"}, rows_within, CODE, [0] * 15, most)

    def test_too_many_data_words(self):
        for code, length in (((4, 2, 0), 6), ((4, 11, 0), 15), ((4, 1, 0), 15), ((8, 1, 0), 3), ((8, 40, 0), 255)):
            for most in (0, 1, GREAT):
                self.assert_refused(TooLarge, {"limit": 12}, rows_within, code, [0] * length, most)


if __name__ == "__main__":
    unittest.main()
