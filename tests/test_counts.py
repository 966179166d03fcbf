"""Point 14: counts over all rows."""

import unittest
from itertools import product
from math import comb

from dotquilts.codes import outcomes, weights
from dotquilts.errors import NoNumber
from tests import reckoning
from tests.asking import Asking, odd_values
from tests.reckoning import SPANS

GREAT = 10 ** 400


def weight(row):
    return len([word for word in row if word != 0])


def counted_weights(code, length):
    counts = [0] * (length + 1)
    for row in reckoning.right_rows(code, length):
        counts[weight(row)] += 1
    return counts


def counted_outcomes(code, length):
    """All rows gone through: which right row, of those that differ in few enough words, each is led to."""
    bound = code[1] // 2
    led = {}
    for right in reckoning.right_rows(code, length):
        for places in product((False, True), repeat=length):
            chosen = [at for at in range(length) if places[at]]
            if len(chosen) <= bound:
                for changes in product(range(1, SPANS[code[0]]), repeat=len(chosen)):
                    words = [right[at] ^ change for at, change in zip(chosen, changes)]
                    led[tuple(reckoning.replaced(right, chosen, words))] = any(right)
    counts = [[0, 0, 0] for _ in range(length + 1)]
    for row in product(range(SPANS[code[0]]), repeat=length):
        kind = 2 if row not in led else 1 if led[row] else 0
        counts[weight(row)][kind] += 1
    return [tuple(count) for count in counts]


def rows_near(span, length, own, bound):
    """For each number of words other than 0, how many rows differ in at most `bound` words from one with `own`.

    Of each word of that row it is chosen whether it stays, is 0, or is another word.
    """
    counts = {(0, 0): 1}
    for at in range(length):
        if at < own:
            steps = ((1, 0, 1), (0, 1, 1), (1, 1, span - 2))
        else:
            steps = ((0, 0, 1), (1, 1, span - 1))
        more = {}
        for (words, far), many in counts.items():
            for word, step, ways in steps:
                if far + step <= bound:
                    key = (words + word, far + step)
                    more[key] = more.get(key, 0) + many * ways
        counts = more
    total = [0] * (length + 1)
    for (words, _), many in counts.items():
        total[words] += many
    return total


class Weights(Asking):

    def test_short_rows_gone_through(self):
        for code, lengths in (((4, 1, 0), (2, 3, 4)), ((4, 2, 9), (3, 4, 5)), ((4, 3, 14), (4, 5, 6)),
                              ((4, 13, 1), (14, 15)), ((8, 1, 3), (2, 3)), ((8, 5, 254), (6,))):
            for length in lengths:
                self.assert_same(weights(code, length), counted_weights(code, length))

    def test_all_lengths_by_places(self):
        for bits, checks, lengths in ((4, range(1, 15), range(2, 16)),
                                      (8, (1, 2, 20, 39, 40), (2, 3, 21, 41, 42, 100, 254, 255))):
            for many in checks:
                for length in lengths:
                    if length > many:
                        wanted = reckoning.weights_by_places(SPANS[bits], many, length)
                        self.assert_same(weights((bits, many, 0), length), wanted)

    def test_the_longest_rows_are_counted_whole(self):
        for many in (1, 40):
            counts = weights((8, many, 254), 255)
            self.assertEqual(len(counts), 256)
            self.assertEqual(sum(counts), 256 ** (255 - many))
            self.assertEqual(counts[:many + 2], [1] + [0] * many + [comb(255, many + 1) * 255])

    def test_start_does_not_matter(self):
        for start in range(15):
            self.assertEqual(weights((4, 5, start), 12), weights((4, 5, 0), 12))
        for start in (1, 60, 254):
            self.assertEqual(weights((8, 5, start), 30), weights((8, 5, 0), 30))

    def test_examples_and_arguments_by_name(self):
        self.assert_same(weights((4, 2, 0), 3), [1, 0, 0, 15])
        self.assert_same(weights(length=3, code=(4, 2, 0)), [1, 0, 0, 15])

    def test_answers_are_new(self):
        self.assert_asked_anew(weights, (4, 2, 0), 9)

    def test_no_length(self):
        for code in ((4, 1, 0), (4, 14, 0), (8, 1, 0), (8, 40, 0)):
            for length in odd_values() + [-1, 0, 1, code[1], SPANS[code[0]], GREAT]:
                self.assert_refused(NoNumber, {"part": "length"}, weights, code, length)


class Outcomes(Asking):

    def test_all_rows_gone_through(self):
        for code, length in (((4, 1, 0), 2), ((4, 1, 3), 4), ((4, 2, 0), 3), ((4, 2, 13), 4), ((4, 3, 5), 4),
                             ((8, 1, 254), 2)):
            wanted = counted_outcomes(code, length)
            for wrong in range(length + 1):
                self.assert_same(outcomes(code, length, wrong), wanted[wrong])

    def check_length(self, bits, many, length):
        """All outcomes of a length, against the rows near to right rows of each number of words."""
        span, bound = SPANS[bits], many // 2
        other = [0] * (length + 1)
        for own, rights in enumerate(reckoning.weights_by_places(span, many, length)):
            if own > 0 and rights > 0:
                for wrong, rows in enumerate(rows_near(span, length, own, bound)):
                    other[wrong] += rights * rows
        for wrong in range(length + 1):
            total = comb(length, wrong) * (span - 1) ** wrong
            same = total if wrong <= bound else 0
            wanted = (same, other[wrong], total - same - other[wrong])
            self.assert_same(outcomes((bits, many, 1), length, wrong), wanted)

    def test_rows_of_four_bits(self):
        for many in range(1, 15):
            for length in sorted({many + 1, (many + 16) // 2, 15}):
                self.check_length(4, many, length)

    def test_rows_of_eight_bits(self):
        for many, length in ((1, 2), (2, 40), (3, 40), (7, 30), (39, 40), (40, 41), (40, 60)):
            self.check_length(8, many, length)

    def test_the_longest_rows_are_counted_whole(self):
        """Each right row has as many rows about it that are led to it, and these are all unlike."""
        for many in (1, 2, 40):
            about = sum(comb(255, far) * 255 ** far for far in range(many // 2 + 1))
            answers = [outcomes((8, many, 7), 255, wrong) for wrong in range(256)]
            self.assertEqual(sum(same + other for same, other, _ in answers), about * 256 ** (255 - many))
            for wrong, answer in enumerate(answers):
                self.assertEqual(sum(answer), comb(255, wrong) * 255 ** wrong)
                self.assertEqual(answer[0], sum(answer) if wrong <= many // 2 else 0)
                self.assertGreaterEqual(min(answer), 0)

    def test_start_does_not_matter(self):
        for start in range(15):
            self.assertEqual(outcomes((4, 4, start), 9, 5), outcomes((4, 4, 0), 9, 5))

    def test_examples_and_arguments_by_name(self):
        self.assert_same(outcomes((4, 2, 0), 3, 2), (0, 45, 630))
        self.assert_same(outcomes(wrong=2, length=3, code=(4, 2, 0)), (0, 45, 630))
        self.assert_same(outcomes((4, 2, 0), 3, 0), (1, 0, 0))
        self.assert_same(outcomes((4, 2, 0), 3, 1), (45, 0, 0))

    def test_no_length_and_no_number(self):
        for code in ((4, 1, 0), (4, 14, 0), (8, 1, 0), (8, 40, 0)):
            for length in odd_values() + [-1, 0, 1, code[1], SPANS[code[0]], GREAT]:
                self.assert_refused(NoNumber, {"part": "length"}, outcomes, code, length, None)
            for length in (code[1] + 1, SPANS[code[0]] - 1):
                for wrong in odd_values() + [-1, length + 1, GREAT, -GREAT]:
                    self.assert_refused(NoNumber, {"part": "wrong"}, outcomes, code, length, wrong)


if __name__ == "__main__":
    unittest.main()
