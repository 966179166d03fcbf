"""Points 16 and 17: pieces and their bits, the best pieces of a text, and how many lists there are."""

import random
import unittest
from itertools import product

from dotquilts.errors import NoNumber, NoPieces, NoText
from dotquilts.pieces import best_pieces, bits_of, is_best, least_bits, piece_bits, ways
from tests import writing
from tests.asking import GREAT, Asking, no_rows, no_texts, numbers_beyond, odd_values
from tests.writing import OF_KIND, SIGNS

# One or more signs of each kind, and the first and last sign of it.
FEW = "09AZ-az\n"
TRICKY = ("12a", "A1", "1A", "a1", "123456a", "AAAA1111aaaa", "1a1a1a", "12345678901234567890", "A" * 32, "0" * 32,
          "a" * 32, "a" * 31 + "0", "0" * 31 + "A" * 31 + "a" * 31, "0" * 63, "A0" * 40, "aA0" * 30, "\n" * 62)


def random_text(dice, many):
    """A text with stretches of all kinds."""
    text = ""
    while len(text) < many:
        signs = OF_KIND[dice.choice((1, 1, 2, 3))]
        text += "".join(dice.choice(signs) for _ in range(dice.choice((1, 2, 3, 5, 8, 20, 40))))
    return text[:many]


def long_texts():
    dice = random.Random(16)
    return [random_text(dice, many) for many in (30, 31, 32, 33, 60, 61, 62, 63, 64, 100, 150, 200, 299, 300)]


class Pieces(Asking):

    def test_signs_are_92(self):
        self.assertEqual(len(set(SIGNS)), 92)
        for worth, sign in enumerate(SIGNS):
            wanted = [1, 1] + [0, 0, 0, 0, 1] + [int(bit) for bit in format(worth, "07b")]
            self.assertEqual(bits_of([(3, sign)]), wanted)

    def test_numbers_of_bits(self):
        for kind in (1, 2, 3):
            for many in range(1, 32):
                self.assert_same(piece_bits(kind, many), len(writing.piece_text(kind, "0" * many)))
        self.assertEqual([piece_bits(1, many) for many in (1, 2, 3, 4, 31)], [11, 14, 17, 21, 111])
        self.assertEqual([piece_bits(2, many) for many in (1, 2, 3, 31)], [13, 18, 24, 178])
        self.assertEqual([piece_bits(3, many) for many in (1, 2, 31)], [14, 21, 224])
        self.assertEqual(piece_bits(many=2, kind=2), 18)

    def test_bits_of_all_kinds_and_numbers(self):
        dice = random.Random(1)
        for kind, signs in OF_KIND.items():
            for many in range(1, 32):
                parts = [signs[0] * many, signs[-1] * many] + [
                    "".join(dice.choice(signs) for _ in range(many)) for _ in range(10)]
                for part in parts:
                    got = bits_of([(kind, part)])
                    self.assert_same(got, writing.bits_of([(kind, part)]))
                    self.assertEqual(len(got), piece_bits(kind, many))

    def test_bits_written_out(self):
        self.assert_same(bits_of([(1, "7")]), [0, 1, 0, 0, 0, 0, 1, 0, 1, 1, 1])
        self.assert_same(bits_of([(1, "99")]), [0, 1, 0, 0, 0, 1, 0, 1, 1, 0, 0, 0, 1, 1])
        self.assert_same(bits_of([(1, "012")]), [0, 1, 0, 0, 0, 1, 1] + [0, 0, 0, 0, 0, 0, 1, 1, 0, 0])
        self.assert_same(bits_of([(2, "1-")]), [1, 0, 0, 0, 0, 1, 0] + [0, 0, 0, 0, 1, 0, 1, 0, 0, 0, 1])
        self.assert_same(bits_of([(2, "-")]), [1, 0, 0, 0, 0, 0, 1] + [1, 0, 1, 0, 0, 0])
        self.assert_same(bits_of([(3, "\n")]), [1, 1, 0, 0, 0, 0, 1] + [1, 0, 1, 1, 0, 1, 1])

    def test_pieces_one_behind_the_other(self):
        self.assert_same(bits_of([]), [])
        self.assert_same(bits_of(()), [])
        pieces = [(2, "A1"), (1, "0"), (3, "12"), (1, "123")]
        self.assert_same(bits_of(pieces), writing.bits_of(pieces))
        self.assert_same(bits_of(pieces=tuple(pieces)), writing.bits_of(pieces))
        many = pieces * 100
        self.assert_same(bits_of(many), writing.bits_of(many))

    def test_answers_are_new(self):
        self.assert_asked_anew(bits_of, [(2, "A1"), (1, "0")])
        self.assert_asked_anew(best_pieces, "A1aaa")
        pieces = [(2, "A1")]
        bits_of(pieces)
        self.assertEqual(pieces, [(2, "A1")])
        pieces.append((1, "0"))
        self.assertEqual(bits_of(pieces), writing.bits_of([(2, "A1"), (1, "0")]))
        self.assertIs(is_best(pieces), False)


class Best(Asking):

    def check_short(self, text):
        lists = sorted(writing.all_lists(text), key=writing.rank)
        self.assert_same(best_pieces(text), lists[0])
        least = writing.rank(lists[0])[0]
        self.assert_same(least_bits(text), least)
        counts = {}
        for pieces in lists:
            bits = writing.rank(pieces)[0]
            counts[bits] = counts.get(bits, 0) + 1
            self.assert_same(is_best(pieces), bits == least)
        for bits in range(max(counts) + 20):
            self.assert_same(ways(text, bits), counts.get(bits, 0))

    def test_all_short_texts(self):
        for many in range(4):
            for signs in product(FEW, repeat=many):
                self.check_short("".join(signs))

    def test_texts_of_some_more_signs(self):
        dice = random.Random(2)
        for many in (4, 5, 6):
            for _ in range(40 // many):
                self.check_short(random_text(dice, many))
        for text in ("12a", "12345", "AB12a", "aaa00", "0a0A0"):
            self.check_short(text)

    def test_long_texts(self):
        for text in list(TRICKY) + long_texts():
            bits, _ = writing.best(text)
            pieces = best_pieces(text)
            self.assert_same(pieces, writing.best_pieces(text))
            self.assert_same(least_bits(text), bits)
            self.assertEqual("".join(part for _, part in pieces), text)
            self.assertTrue(all(1 <= len(part) <= 31 for _, part in pieces))
            self.assertEqual(len(bits_of(pieces)), bits)
            self.assert_same(is_best(pieces), True)
            self.assert_same(is_best(tuple(pieces)), True)
            self.assert_same(is_best([(3, sign) for sign in text]), len(text) * 14 == bits)

    def test_three_hundred_signs_of_a_kind(self):
        for kind, signs in OF_KIND.items():
            text = signs[-1] * 300
            pieces = best_pieces(text)
            self.assert_same(pieces, writing.best_pieces(text))
            self.assertEqual({piece[0] for piece in pieces}, {kind})
            self.assertGreaterEqual(len(pieces), 10)

    def test_somewhat_longer_texts_do(self):
        self.assertEqual(least_bits("a" * 310), 7 * 310 + 7 * 10)
        self.assertEqual(ways("a" * 62, 62 * 14), 1)

    def test_the_first_of_several(self):
        self.assert_same(best_pieces("12a"), [(1, "12"), (3, "a")])
        self.assertEqual(least_bits("12a"), 28)
        for pieces in ([(1, "12"), (3, "a")], [(3, "12a")]):
            self.assert_same(is_best(pieces), True)
        # All splits into two pieces have as many bits: the one with the shortest first piece comes first.
        self.assert_same(best_pieces("a" * 32), [(3, "a"), (3, "a" * 31)])
        self.assert_same(best_pieces("0" * 32), writing.best_pieces("0" * 32))

    def test_no_signs(self):
        self.assert_same(best_pieces(""), [])
        self.assert_same(least_bits(""), 0)
        self.assert_same(is_best([]), True)
        self.assert_same(is_best(()), True)
        self.assertEqual([ways("", bits) for bits in (0, 1, 2, 11, 4000)], [1, 0, 0, 0, 0])

    def test_examples_and_arguments_by_name(self):
        self.assert_same(best_pieces(text="A1"), [(2, "A1")])
        self.assert_same(least_bits(text="A1"), 18)
        self.assert_same(is_best(pieces=[(2, "A1")]), True)
        self.assert_same(ways(bits=28, text="12a"), 2)


class Ways(Asking):

    def test_long_texts_one_by_one(self):
        dice = random.Random(3)
        texts = ["0" * 60, "A" * 60, "a" * 60] + [random_text(dice, many) for many in (20, 40, 59, 60)]
        for text in texts:
            counts = writing.ways(text)
            numbers = {0, 1, 10, 839, 840, 841, 4000, min(counts), max(counts), min(counts) - 1, max(counts) + 1}
            for bits in sorted(numbers | set(sorted(counts)[::40])):
                self.assert_same(ways(text, bits), counts.get(bits, 0))
            self.assertEqual(ways(text, least_bits(text) - 1), 0)
            self.assertGreater(ways(text, least_bits(text)), 0)

    def test_all_lists_of_a_text_together(self):
        for kind, text in ((3, "a" * 20), (2, "A" * 12), (1, "5" * 10)):
            # Behind each sign but the last one there is a new piece of one of the kinds, or none.
            kinds = 4 - kind
            wanted = kinds * (kinds + 1) ** (len(text) - 1)
            self.assertEqual(sum(ways(text, bits) for bits in range(14 * len(text) + 1)), wanted)


class Facts(Asking):

    def test_a_text_with_a_sign_less_needs_no_more(self):
        dice = random.Random(4)
        for text in list(TRICKY[:10]) + [random_text(dice, many) for many in (5, 12, 33, 40)]:
            bits = least_bits(text)
            for at in range(len(text)):
                self.assertLessEqual(least_bits(text[:at] + text[at + 1:]), bits)

    def test_two_texts_need_no_more_than_both(self):
        dice = random.Random(5)
        texts = [random_text(dice, many) for many in (0, 1, 2, 7, 31, 32, 50)]
        for one in texts:
            for other in texts:
                self.assertLessEqual(least_bits(one + other), least_bits(one) + least_bits(other))

    def test_seven_bits_for_each_sign_and_each_piece(self):
        for text in long_texts() + list(TRICKY):
            self.assertLessEqual(least_bits(text), 7 * len(text) + 7 * -(-len(text) // 31))


class Refusals(Asking):

    def test_no_numbers(self):
        for kind in odd_values() + numbers_beyond(1, 3):
            self.assert_refused(NoNumber, {"part": "kind"}, piece_bits, kind, 1)
            self.assert_refused(NoNumber, {"part": "kind"}, piece_bits, kind, None)
        for kind in (1, 2, 3):
            for many in odd_values() + numbers_beyond(1, 31):
                self.assert_refused(NoNumber, {"part": "many"}, piece_bits, kind, many)
                self.assert_refused(NoNumber, {"part": "many"}, piece_bits, many=many, kind=kind)

    def test_no_list_of_pieces(self):
        for call in (bits_of, is_best):
            for thing in no_rows() + [1, "12", GREAT]:
                self.assert_refused(NoPieces, {"index": -1}, call, thing)
                self.assert_refused(NoPieces, {"index": -1}, call, pieces=thing)

    def test_no_piece(self):
        wrong = odd_values() + [
            0, 1, GREAT, (1, ""), (2, ""), (3, ""), (1, "0" * 32), (2, "A" * 32), (3, "a" * 32), (1, "A"), (1, "0a"),
            (1, "-"), (2, "a"), (2, "A\n"), (2, "!"), (3, "`"), (3, '"'), (3, "a%"), (3, "\\"), (3, "\t"), (3, "\r"),
            (1, "\u0663"), (1, "\u00b2"), (3, "\u00e4"), (0, "0"), (4, "0"), (-1, "0"), (True, "0"), (GREAT, "0"),
            (None, "0"), ("1", "0"), (1, 0), (1, None), (1, b"0"), (1, ["0"]), (1, ("0",)), [1, "0"], (1, "0", 1),
            (1,), ("0", 1), ((1, "0"),), [(1, "0")],
        ]
        for at, thing in enumerate(wrong):
            pieces = [(1, "0"), (2, "A"), (3, "a")]
            pieces[at % 3] = thing
            for call in (bits_of, is_best):
                self.assert_refused(NoPieces, {"index": at % 3}, call, pieces)
                self.assert_refused(NoPieces, {"index": at % 3}, call, tuple(pieces))
                self.assert_refused(NoPieces, {"index": at % 3}, call, pieces[:at % 3 + 1] + [None, 1])

    def test_no_text(self):
        for thing, index in no_texts():
            for call in (best_pieces, least_bits):
                self.assert_refused(NoText, {"index": index}, call, thing)
                self.assert_refused(NoText, {"index": index}, call, text=thing)
            for bits in (0, None, -1):
                self.assert_refused(NoText, {"index": index}, ways, thing, bits)

    def test_no_number_of_bits(self):
        for bits in odd_values() + numbers_beyond(0, 4000):
            for text in ("", "12a"):
                self.assert_refused(NoNumber, {"part": "bits"}, ways, text, bits)
                self.assert_refused(NoNumber, {"part": "bits"}, ways, bits=bits, text=text)


if __name__ == "__main__":
    unittest.main()
