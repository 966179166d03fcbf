"""Points 10 and 11: codes, check words, and right rows."""

import random
import unittest
from itertools import product

from dotquilts.codes import (
    check_words, is_right, is_twins, outcomes, repaired, rows_within, syndromes, twins, weights,
)
from dotquilts.errors import NoCode, NoWord
from tests import reckoning
from tests.asking import Asking, odd_values
from tests.reckoning import SPANS

GREAT = 10 ** 400
MOST_CHECKS = {4: 14, 8: 40}
CALLS = (
    (check_words, (None,)), (syndromes, (None,)), (is_right, (None,)), (repaired, (None,)),
    (twins, (None, None, None)), (is_twins, (None, None, None, None)), (rows_within, (None, None)),
    (weights, (None,)), (outcomes, (None, None)),
)


def codes_of(bits):
    """Codes with the fewest and the most check words, and some between, with several starts."""
    checks = (1, 2, 3, 7, MOST_CHECKS[bits] - 1, MOST_CHECKS[bits])
    starts = (0, 1, 2, 9, SPANS[bits] - 3, SPANS[bits] - 2)
    return [(bits, many, start) for many in checks for start in starts]


def lengths_of(code):
    """The shortest and the longest rows of a code, and one between."""
    most = SPANS[code[0]] - 1
    return sorted({code[1] + 1, min(code[1] + 2, most), (code[1] + most + 1) // 2, most})


def no_codes():
    wrong = [(bits, 1, 0) for bits in odd_values() + [0, 3, 5, 16, -4, GREAT]]
    wrong += [(bits, many, 0) for bits in (4, 8) for many in odd_values() + [0, -1, MOST_CHECKS[bits] + 1, GREAT]]
    wrong += [(bits, 1, start) for bits in (4, 8) for start in odd_values() + [-1, SPANS[bits] - 1, GREAT]]
    wrong += [(4, 1), (4, 1, 0, 0), [4, 1, 0], "410", {4: 1, 1: 0, 0: 4}, (4, 15, 0), (4, 40, 0), (4, 1, 254)]
    return wrong + odd_values() + [4, 0, GREAT]


class Codes(Asking):

    def test_what_is_no_code_is_refused_first(self):
        for code in no_codes():
            for call, told in CALLS:
                self.assert_refused(NoCode, {"code": code}, call, code, *told)

    def test_the_edges_are_codes(self):
        for bits in SPANS:
            for many in (1, MOST_CHECKS[bits]):
                for start in (0, SPANS[bits] - 2):
                    code = (bits, many, start)
                    self.assertEqual(len(check_words(code, [1])), many)
                    self.assertEqual(len(syndromes(code, [1] * (many + 1))), many)
                    self.assertTrue(is_right(code, [0] * (SPANS[bits] - 1)))
                    self.assertEqual(repaired(code, [0] * (many + 1)), ([0] * (many + 1), ()))
                    self.assertIsNone(twins(code, many + 1, 0, many))
                    self.assertFalse(is_twins(code, many + 1, 0, many, None))
                    self.assertEqual(len(rows_within(code, [0] * (many + 1), 0)), 1)
                    self.assertEqual(len(weights(code, many + 1)), many + 2)
                    self.assertEqual(outcomes(code, many + 1, 0), (1, 0, 0))


class RightRows(Asking):

    def check_data(self, code, data):
        checks = check_words(code, data)
        self.assertIs(type(checks), list)
        self.assertEqual(len(checks), code[1])
        row = list(data) + checks
        for word in checks:
            self.assertIs(type(word), int)
            self.assertIn(word, range(SPANS[code[0]]))
        self.assertTrue(reckoning.is_right(code, row))
        self.assert_same(syndromes(code, row), [0] * code[1])
        self.assert_same(is_right(code, row), True)
        self.assert_same(is_right(code, tuple(row)), True)

    def test_check_words_of_all_lengths(self):
        dice = random.Random(11)
        for bits in SPANS:
            for code in codes_of(bits):
                for length in lengths_of(code):
                    data = [dice.randrange(SPANS[bits]) for _ in range(length - code[1])]
                    self.check_data(code, data)
                    self.check_data(code, tuple(data))

    def test_check_words_of_simple_data(self):
        for code in ((4, 14, 3), (4, 5, 14), (8, 40, 200), (8, 1, 0)):
            for data in ([0], [1], [0, 0], [1, 0], [0, 1], [SPANS[code[0]] - 1] * 10):
                if len(data) + code[1] < SPANS[code[0]]:
                    self.check_data(code, data)

    def test_all_check_words_of_short_codes(self):
        for code in ((4, 1, 0), (4, 1, 14), (4, 2, 0), (4, 2, 13), (4, 3, 6)):
            for row in reckoning.right_rows(code, code[1] + 2):
                self.assert_same(check_words(code, row[:2]), row[2:])

    def test_all_rows_of_short_codes(self):
        for code in ((4, 1, 0), (4, 1, 7), (4, 2, 0), (4, 2, 14)):
            right = [tuple(row) for row in reckoning.right_rows(code, 3)]
            found = [row for row in product(range(16), repeat=3) if is_right(code, row)]
            self.assertEqual(found, right)

    def test_all_shortest_rows_of_eight_bits(self):
        for start in (0, 1, 254):
            code = (8, 1, start)
            right = [tuple(row) for row in reckoning.right_rows(code, 2)]
            found = [row for row in product(range(0, 256, 5), range(256)) if is_right(code, row)]
            self.assertEqual(found, [row for row in right if row[0] % 5 == 0])

    def test_syndromes_of_any_rows(self):
        dice = random.Random(12)
        for bits in SPANS:
            for code in codes_of(bits):
                for length in lengths_of(code):
                    row = [dice.randrange(SPANS[bits]) for _ in range(length)]
                    wanted = reckoning.syndromes(code, row)
                    self.assert_same(syndromes(code, row), wanted)
                    self.assert_same(syndromes(code, tuple(row)), wanted)
                    self.assert_same(is_right(code, row), not any(wanted))

    def test_one_wrong_word_makes_a_row_wrong(self):
        for code, length in (((4, 1, 5), 15), ((4, 14, 14), 15), ((8, 3, 254), 20)):
            data = [at % SPANS[code[0]] for at in range(length - code[1])]
            row = data + check_words(code, data)
            for at in range(length):
                wrong = list(row)
                wrong[at] ^= 1 + at
                self.assert_same(is_right(code, wrong), False)

    def test_facts_of_right_rows(self):
        for code in ((4, 4, 3), (8, 7, 250)):
            bits, many, start = code
            one, other = [5, 0, 7, 9], [1, 15, 0, 2]
            one, other = one + check_words(code, one), other + check_words(code, other)
            self.assertTrue(is_right(code, reckoning.added(one, other)))
            self.assertTrue(is_right(code, reckoning.multiple(bits, one, 11)))
            self.assertTrue(is_right(code, [0, 0, 0] + one))
            self.assertNotIn(0, check_words(code, (0, 0, 6)))
            moved = [reckoning.times(bits, word, reckoning.two_to(bits, at + 1 - len(one)))
                     for at, word in enumerate(one)]
            self.assertTrue(is_right((bits, many, (start + 1) % (SPANS[bits] - 1)), moved))

    def test_examples(self):
        code = (4, 2, 0)
        self.assert_same(check_words(code, (1,)), [3, 2])
        self.assert_same(syndromes(code, (1, 3, 7)), [5, 5])

    def test_arguments_by_name(self):
        self.assertEqual(check_words(words=[1], code=(4, 2, 0)), [3, 2])
        self.assertEqual(syndromes(row=[1, 3, 7], code=(4, 2, 0)), [5, 5])
        self.assertIs(is_right(row=[1, 3, 2], code=(4, 2, 0)), True)

    def test_answers_are_new_and_arguments_stay(self):
        data, row = [1, 2, 3], [1, 2, 3, 4, 5]
        self.assert_asked_anew(check_words, (4, 2, 0), data)
        self.assert_asked_anew(syndromes, (4, 2, 0), row)
        is_right((4, 2, 0), row)
        self.assertEqual((data, row), ([1, 2, 3], [1, 2, 3, 4, 5]))

    def test_a_changed_list_is_asked_anew(self):
        row = [1, 3, 2]
        self.assertTrue(is_right((4, 2, 0), row))
        row[2] = 7
        self.assertFalse(is_right((4, 2, 0), row))
        self.assertEqual(syndromes((4, 2, 0), row), [5, 5])
        row.append(0)
        self.assertEqual(syndromes((4, 2, 0), row), reckoning.syndromes((4, 2, 0), row))
        data = [1]
        self.assertEqual(check_words((4, 2, 0), data), [3, 2])
        data[0] = 0
        self.assertEqual(check_words((4, 2, 0), data), [0, 0])


class Refusals(Asking):

    def no_rows(self):
        return [thing for thing in odd_values() if not isinstance(thing, (list, tuple))] + [0, 4, GREAT]

    def test_no_list_or_tuple(self):
        for code in ((4, 2, 0), (8, 40, 254)):
            for thing in self.no_rows():
                self.assert_refused(NoWord, {"part": "words", "index": -1}, check_words, code, thing)
                self.assert_refused(NoWord, {"part": "row", "index": -1}, syndromes, code, thing)
                self.assert_refused(NoWord, {"part": "row", "index": -1}, is_right, code, thing)

    def test_no_such_many_words(self):
        for bits in SPANS:
            for many in (1, 7, MOST_CHECKS[bits]):
                code, most = (bits, many, 3), SPANS[bits] - 1
                for length in (0, many, most + 1, most + 2, 2 * most):
                    for call in (syndromes, is_right):
                        self.assert_refused(NoWord, {"part": "row", "index": -1}, call, code, [0] * length)
                        self.assert_refused(NoWord, {"part": "row", "index": -1}, call, code, ("no",) * length)
                for length in (0, most - many + 1, most):
                    self.assert_refused(NoWord, {"part": "words", "index": -1}, check_words, code, [0] * length)
                    self.assert_refused(NoWord, {"part": "words", "index": -1}, check_words, code, ("no",) * length)

    def test_no_word(self):
        for bits in SPANS:
            things = odd_values() + [-1, SPANS[bits], SPANS[bits] + 3, GREAT, -GREAT]
            for at, thing in enumerate(things):
                place = at % 5
                row = [0, 1, 2, 3, 4, None, -1]
                row[place] = thing
                for form in (row, tuple(row)):
                    code = (bits, 2, 1)
                    self.assert_refused(NoWord, {"part": "words", "index": place}, check_words, code, form)
                    self.assert_refused(NoWord, {"part": "row", "index": place}, syndromes, code, form)
                    self.assert_refused(NoWord, {"part": "row", "index": place}, is_right, code, form)

    def test_a_gap_is_no_word(self):
        self.assert_refused(NoWord, {"part": "words", "index": 1}, check_words, (4, 2, 0), (1, None))
        self.assert_refused(NoWord, {"part": "row", "index": 2}, syndromes, (4, 2, 0), (1, 3, None))
        self.assert_refused(NoWord, {"part": "row", "index": 0}, is_right, (4, 2, 0), (None, 3, 2))


if __name__ == "__main__":
    unittest.main()
