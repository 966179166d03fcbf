"""Points 5 to 8: words, their products and powers, and polynomials."""

import random
import unittest

from dotquilts.errors import NoField, NoWord
from dotquilts.fields import divided, exponent, poly_product, power, product, quotient, value
from tests import reckoning
from tests.asking import Asking, odd_values
from tests.reckoning import SPANS, TABLES

GREAT = 10 ** 400


def words_of(bits):
    return range(SPANS[bits])


def no_fields():
    return odd_values() + [-8, -4, 0, 1, 2, 3, 5, 6, 7, 9, 12, 16, 64, GREAT, -GREAT]


def no_words(bits):
    return odd_values() + [-1, -2, SPANS[bits], SPANS[bits] + 1, GREAT, -GREAT]


def random_polynomials(bits, many, longest):
    """Polynomials of all short lengths, some with words 0 at the front, in both forms of a row."""
    dice = random.Random(5)
    found = [[], [0], [0, 0], [1], [0, 1], [1, 0]]
    for _ in range(many):
        words = [dice.randrange(SPANS[bits]) for _ in range(dice.randrange(longest + 1))]
        found.append([0] * dice.randrange(3) + words)
    return [tuple(words) if at % 2 else words for at, words in enumerate(found)]


class Products(Asking):

    def test_products_of_all_words(self):
        for bits in SPANS:
            for one in words_of(bits):
                got = [product(bits, one, other) for other in words_of(bits)]
                self.assertEqual(got, TABLES[bits][one])

    def test_products_as_the_doubles_tell(self):
        self.assertEqual([product(4, word, 2) for word in (0, 1, 7, 8, 15)], [0, 2, 14, 9, 7])
        self.assertEqual([product(8, word, 2) for word in (0, 1, 127, 128, 255)], [0, 2, 254, 113, 143])

    def test_quotients_of_all_words(self):
        for bits in SPANS:
            for one in words_of(bits):
                for other in words_of(bits)[1:]:
                    self.assertEqual(TABLES[bits][quotient(bits, one, other)][other], one)

    def test_answers_are_words(self):
        for bits in SPANS:
            for one in words_of(bits)[1:]:
                for got in (product(bits, one, 3), quotient(bits, one, 3), power(bits, one, -3), exponent(bits, one)):
                    self.assertIs(type(got), int)
                    self.assertIn(got, words_of(bits))

    def test_a_field(self):
        for bits in SPANS:
            for one in words_of(bits)[1:]:
                inverse = quotient(bits, 1, one)
                self.assertEqual(product(bits, one, inverse), 1)
                self.assertEqual(product(bits, inverse, one), 1)
                self.assertEqual(quotient(bits, 0, one), 0)
                self.assertEqual(quotient(bits, one, one), 1)

    def test_arguments_by_name(self):
        self.assertEqual(product(other=2, one=8, bits=4), 9)
        self.assertEqual(quotient(other=2, one=1, bits=4), 12)


class Powers(Asking):

    def check_powers(self, bits, one, most):
        total = 1
        for times in range(most + 1):
            self.assert_same(power(bits, one, times), total)
            if one != 0:
                self.assertEqual(TABLES[bits][power(bits, one, -times)][total], 1)
            total = TABLES[bits][total][one]

    def test_powers_of_all_words_of_four_bits(self):
        for one in words_of(4):
            self.check_powers(4, one, 50)

    def test_powers_of_words_of_eight_bits(self):
        for one in words_of(8):
            self.check_powers(8, one, 12)
        for one in (0, 1, 2, 3, 113, 127, 128, 254, 255):
            self.check_powers(8, one, 520)

    def test_powers_of_zero(self):
        for bits in SPANS:
            for times in (1, 2, 14, 15, 16, 30, 254, 255, 256, 510, GREAT):
                self.assert_same(power(bits, 0, times), 0)
            self.assert_same(power(bits, 0, 0), 1)

    def test_very_great_powers(self):
        for bits in SPANS:
            turn = SPANS[bits] - 1
            for one in words_of(bits)[1:]:
                for times in (GREAT, -GREAT, GREAT + 1, 1 - GREAT, 2 ** 64, -2 ** 64 - 1, turn * GREAT):
                    wanted = 1
                    for _ in range(times % turn):
                        wanted = TABLES[bits][wanted][one]
                    self.assertEqual(power(bits, one, times), wanted)

    def test_exponents(self):
        for bits in SPANS:
            for times, word in enumerate(reckoning.turn_of_two(bits)):
                self.assert_same(exponent(bits, word), times)
                self.assertEqual(power(bits, 2, times), word)

    def test_powers_of_two_are_all_words(self):
        for bits in SPANS:
            got = {power(bits, 2, times) for times in range(SPANS[bits] - 1)}
            self.assertEqual(got, set(words_of(bits)[1:]))

    def test_arguments_by_name(self):
        self.assertEqual(power(times=-1, one=2, bits=4), 12)
        self.assertEqual(exponent(one=9, bits=4), 4)


class Polynomials(Asking):

    def test_values(self):
        for bits in SPANS:
            for at, words in enumerate(random_polynomials(bits, 200, 12)):
                for place in {0, 1, 2, SPANS[bits] - 1, at % SPANS[bits]}:
                    self.assert_same(value(bits, words, place), reckoning.value(bits, words, place))

    def test_values_without_words_and_at_zero(self):
        self.assert_same(value(4, (), 7), 0)
        self.assert_same(value(4, [], 0), 0)
        self.assert_same(value(8, (0, 0, 200), 0), 200)
        self.assert_same(value(8, (3, 0), 0), 0)
        self.assert_same(value(4, (0, 0, 1, 0, 3), 2), 7)

    def test_long_values(self):
        words = [(7 * at + 3) % 256 for at in range(1000)]
        self.assertEqual(value(8, words, 77), reckoning.value(8, words, 77))

    def test_products(self):
        for bits in SPANS:
            polynomials = random_polynomials(bits, 40, 8)
            for one in polynomials:
                for other in polynomials:
                    self.assert_same(poly_product(bits, one, other), reckoning.poly_product(bits, one, other))

    def test_products_of_single_words(self):
        for bits in SPANS:
            for one in words_of(bits):
                for other in words_of(bits):
                    if poly_product(bits, [one], [other]) != [TABLES[bits][one][other]]:
                        self.fail((bits, one, other))

    def test_quotients_of_single_words(self):
        for bits in SPANS:
            for one in words_of(bits):
                for other in words_of(bits)[1:]:
                    if divided(bits, [TABLES[bits][one][other]], [other]) != ([one], []):
                        self.fail((bits, one, other))

    def test_products_keep_words_zero(self):
        self.assert_same(poly_product(4, (), (1, 2)), [])
        self.assert_same(poly_product(4, [1, 2], []), [])
        self.assert_same(poly_product(4, (), ()), [])
        self.assert_same(poly_product(4, (0,), (0,)), [0])
        self.assert_same(poly_product(4, (0, 1), [0, 0, 3]), [0, 0, 0, 3])

    def test_value_of_a_product(self):
        for bits in SPANS:
            polynomials = random_polynomials(bits, 20, 6)
            for one, other in zip(polynomials, reversed(polynomials)):
                both = poly_product(bits, one, other)
                for at in (0, 1, 2, 11):
                    wanted = TABLES[bits][value(bits, one, at)][value(bits, other, at)]
                    self.assertEqual(value(bits, both, at), wanted)

    def check_division(self, bits, words, other):
        answer = divided(bits, words, other)
        self.assertIs(type(answer), tuple)
        first, rest = answer
        self.assertEqual((type(first), type(rest)), (list, list))
        if len(words) < len(other):
            self.assert_same(answer, ([], list(words)))
            return
        self.assertEqual((len(first), len(rest)), (len(words) - len(other) + 1, len(other) - 1))
        for word in first + rest:
            self.assertIs(type(word), int)
            self.assertIn(word, words_of(bits))
        total = reckoning.poly_product(bits, first, other)
        for at, word in enumerate(reversed(rest)):
            total[len(total) - 1 - at] ^= word
        self.assertEqual(total, list(words))

    def test_divisions(self):
        for bits in SPANS:
            polynomials = random_polynomials(bits, 40, 9)
            for words in polynomials:
                for other in polynomials:
                    if other and other[0] != 0:
                        self.check_division(bits, words, other)

    def test_divisions_at_the_edges(self):
        self.assert_same(divided(4, (), (1,)), ([], []))
        self.assert_same(divided(4, (), [3, 4]), ([], []))
        self.assert_same(divided(4, (0,), (5,)), ([0], []))
        self.assert_same(divided(4, (0, 7), (1, 2, 3)), ([], [0, 7]))
        self.assert_same(divided(4, (0, 0, 7), (1, 2)), ([0, 0], [7]))
        self.assert_same(divided(4, [0, 1, 0, 3], [1, 2]), ([0, 1, 2], [7]))
        self.assert_same(divided(8, [113, 2], [128]), ([2, reckoning.TABLES[8][2][quotient(8, 1, 128)]], []))

    def test_roots(self):
        for bits in SPANS:
            for words in random_polynomials(bits, 30, 6):
                if not words:
                    continue
                roots = [at for at in words_of(bits) if value(bits, words, at) == 0]
                self.assertEqual([at for at in words_of(bits) if divided(bits, words, (1, at))[1] == [0]], roots)
                if any(words):
                    self.assertLess(len(roots), len(words))

    def test_examples(self):
        self.assertEqual(product(4, 8, 2), 9)
        self.assertEqual(quotient(4, 1, 2), 12)
        self.assertEqual(exponent(4, 9), 4)
        self.assertEqual(product(8, 128, 2), 113)
        self.assertEqual(value(4, (1, 0, 3), 2), 7)
        self.assert_same(divided(4, (1, 0, 3), (1, 2)), ([1, 2], [7]))

    def test_arguments_by_name(self):
        self.assertEqual(value(at=2, words=(1, 0, 3), bits=4), 7)
        self.assertEqual(poly_product(other=(1, 2), one=(3,), bits=4), [3, 6])
        self.assertEqual(divided(other=(1, 2), words=(1, 0, 3), bits=4), ([1, 2], [7]))

    def test_arguments_stay_and_answers_are_new(self):
        one, other = [0, 1, 2], [3, 4, 5, 6]
        self.assert_asked_anew(poly_product, 4, one, other)
        self.assert_asked_anew(poly_product, 4, [], other)
        self.assert_asked_anew(poly_product, 4, [1], other)
        self.assert_asked_anew(divided, 4, other, one[1:])
        self.assert_asked_anew(divided, 4, one, other)
        self.assert_asked_anew(divided, 4, other, [1])
        value(4, one, 3)
        self.assertEqual((one, other), ([0, 1, 2], [3, 4, 5, 6]))
        one[0] = 9
        self.assertEqual(value(4, one, 3), reckoning.value(4, one, 3))


class Refusals(Asking):

    def test_no_field(self):
        for bits in no_fields():
            for call in (product, quotient, power, value, poly_product, divided):
                self.assert_refused(NoField, {"bits": bits}, call, bits, None, None)
            self.assert_refused(NoField, {"bits": bits}, exponent, bits, None)
        self.assert_refused(NoField, {"bits": 5}, product, other=1, one=1, bits=5)

    def test_no_word(self):
        for bits in SPANS:
            for thing in no_words(bits):
                for call in (product, quotient):
                    self.assert_refused(NoWord, {"part": "one", "index": -1}, call, bits, thing, thing)
                    self.assert_refused(NoWord, {"part": "other", "index": -1}, call, bits, 1, thing)
                self.assert_refused(NoWord, {"part": "one", "index": -1}, power, bits, thing, None)
                self.assert_refused(NoWord, {"part": "one", "index": -1}, exponent, bits, thing)
                self.assert_refused(NoWord, {"part": "at", "index": -1}, value, bits, (1,), thing)
                self.assert_refused(NoWord, {"part": "at", "index": -1}, value, bits, (), thing)

    def test_zero_where_it_cannot_stand(self):
        for bits in SPANS:
            for one in (0, 1, 15):
                self.assert_refused(NoWord, {"part": "other", "index": -1}, quotient, bits, one, 0)
            self.assert_refused(NoWord, {"part": "one", "index": -1}, quotient, bits, SPANS[bits], 0)
            self.assert_refused(NoWord, {"part": "one", "index": -1}, exponent, bits, 0)
            for times in (-1, -2, -15, -255, -GREAT):
                self.assert_refused(NoWord, {"part": "times", "index": -1}, power, bits, 0, times)

    def test_no_times(self):
        for bits in SPANS:
            for times in odd_values():
                for one in (0, 1, 2):
                    self.assert_refused(NoWord, {"part": "times", "index": -1}, power, bits, one, times)

    def test_no_polynomial(self):
        rows = [thing for thing in odd_values() if not isinstance(thing, (list, tuple))] + [0, 4, GREAT]
        for bits in SPANS:
            for thing in rows:
                self.assert_refused(NoWord, {"part": "words", "index": -1}, value, bits, thing, None)
                self.assert_refused(NoWord, {"part": "one", "index": -1}, poly_product, bits, thing, None)
                self.assert_refused(NoWord, {"part": "other", "index": -1}, poly_product, bits, (1,), thing)
                self.assert_refused(NoWord, {"part": "other", "index": -1}, poly_product, bits, (), thing)
                self.assert_refused(NoWord, {"part": "words", "index": -1}, divided, bits, thing, None)
                self.assert_refused(NoWord, {"part": "other", "index": -1}, divided, bits, (1,), thing)

    def test_no_word_of_a_polynomial(self):
        for bits in SPANS:
            for at, thing in enumerate(no_words(bits)):
                place = at % 4
                words = [0, 1, 2, 3, None, 99999]
                words[place] = thing
                row = tuple(words) if at % 2 else words
                self.assert_refused(NoWord, {"part": "words", "index": place}, value, bits, row, None)
                self.assert_refused(NoWord, {"part": "one", "index": place}, poly_product, bits, row, [-1])
                self.assert_refused(NoWord, {"part": "other", "index": place}, poly_product, bits, (), row)
                self.assert_refused(NoWord, {"part": "words", "index": place}, divided, bits, row, [-1])
                self.assert_refused(NoWord, {"part": "other", "index": place}, divided, bits, [], row)

    def test_no_divisor(self):
        for bits in SPANS:
            for other in ((), [], (0,), [0, 1], (0, 0, 3)):
                self.assert_refused(NoWord, {"part": "other", "index": 0}, divided, bits, (1, 2), other)
                self.assert_refused(NoWord, {"part": "other", "index": 0}, divided, bits, (), other)
                self.assert_refused(NoWord, {"part": "words", "index": 1}, divided, bits, (1, -1), other)
        self.assert_refused(NoWord, {"part": "other", "index": 2}, divided, 4, (1,), (0, 1, 16))

    def test_words_of_the_other_length(self):
        self.assertEqual(product(8, 16, 1), 16)
        self.assert_refused(NoWord, {"part": "one", "index": -1}, product, 4, 16, 1)
        self.assert_refused(NoWord, {"part": "words", "index": 1}, value, 4, (15, 16), 1)


if __name__ == "__main__":
    unittest.main()
