"""Point 18: reading rows of bits, and counting those that can be read."""

import random
import unittest
from itertools import product

from dotquilts.errors import NoBits, NoNumber, NoText, Unread
from dotquilts.pieces import bits_of
from dotquilts.reading import readable, rows_of, text_of
from tests import writing
from tests.asking import GREAT, Asking, no_rows, no_texts, numbers_beyond, odd_values
from tests.writing import OF_KIND


def bits(text):
    """Bits that are written with blanks between their parts."""
    return [int(sign) for sign in text if sign != " "]


def random_pieces(dice, many):
    found = []
    for _ in range(many):
        kind = dice.choice((1, 2, 3))
        length = dice.choice((1, 1, 2, 3, 4, 5, 30, 31))
        found.append((kind, "".join(dice.choice(OF_KIND[kind]) for _ in range(length))))
    return found


def counted_readable(many):
    """By the last piece that a row begins with: how many rows of pieces alone there are, and what may follow."""
    sizes = {}
    for kind, signs in ((1, 10), (2, 41), (3, 92)):
        for length in range(1, 32):
            size = writing.SIZES[kind, length]
            sizes[size] = sizes.get(size, 0) + signs ** length
    whole = [1]
    for length in range(1, many + 1):
        whole.append(sum(parts * whole[length - size] for size, parts in sizes.items() if size <= length))
    total = whole[many]
    if many >= 1:
        total += 2 * whole[many - 1]
    return total + sum(whole[length] * 2 ** (many - 2 - length) for length in range(many - 1))


class Rows(Asking):

    def test_all_short_rows(self):
        for many in range(14):
            texts = {}
            for row in product((0, 1), repeat=many):
                try:
                    wanted = writing.read(row)
                except writing.Refused as refused:
                    at, why = refused.args
                    self.assert_refused(Unread, {"at": at, "why": why}, text_of, row)
                    continue
                self.assert_same(text_of(row), wanted)
                texts[wanted[0]] = texts.get(wanted[0], 0) + 1
            self.assert_same(readable(many), sum(texts.values()))
            for text in list(texts)[:40] + ["", "0", "00", "A", "a", "9"]:
                self.assert_same(rows_of(text, many), texts.get(text, 0))
            self.assertEqual(sum(rows_of(text, many) for text in texts), readable(many))

    def test_rows_that_begin_with_pieces(self):
        """Longer rows: a few pieces, and all rows of some bits behind them."""
        dice = random.Random(1)
        for _ in range(12):
            pieces = random_pieces(dice, dice.randrange(1, 4))
            ahead = writing.bits_of(pieces)
            for many in range(8):
                for tail in product((0, 1), repeat=many):
                    self.check_row(ahead + list(tail))

    def check_row(self, row):
        try:
            wanted = writing.read(row)
        except writing.Refused as refused:
            self.assert_refused(Unread, {"at": refused.args[0], "why": refused.args[1]}, text_of, row)
        else:
            self.assert_same(text_of(row), wanted)

    def test_rows_that_lie_somewhere(self):
        dice = random.Random(2)
        for _ in range(400):
            row = writing.bits_of(random_pieces(dice, dice.randrange(1, 5)))
            row = row[:len(row) - dice.choice((0, 0, 1, 5, 20))]
            for at in dice.sample(range(len(row)), min(len(row), dice.randrange(4))):
                row[at] ^= 1
            self.check_row(row)

    def test_back_to_pieces_with_the_end_and_without(self):
        dice = random.Random(3)
        for many in (0, 1, 2, 3, 10, 100):
            pieces = random_pieces(dice, many)
            row = bits_of(pieces)
            text = "".join(part for _, part in pieces)
            self.assert_same(text_of(row), (text, pieces, len(row)))
            for bit in (0, 1):
                self.assert_same(text_of(row + [bit]), (text, pieces, len(row)))
            for tail in ([], [1], [1, 1, 1], [1, 0] * 50, [0, 0], [0, 1, 0, 0, 0, 0, 0]):
                self.assert_same(text_of(row + [0, 0] + tail), (text, pieces, len(row) + 2))

    def test_pieces_are_told_as_they_stand(self):
        pieces = [(3, "1"), (3, "2"), (2, "34"), (1, "5"), (1, "6")]
        self.assert_same(text_of(bits_of(pieces)), ("123456", pieces, len(bits_of(pieces))))

    def test_fewer_than_two_bits(self):
        self.assert_same(text_of([]), ("", [], 0))
        self.assert_same(text_of(()), ("", [], 0))
        self.assert_same(text_of([0]), ("", [], 0))
        self.assert_same(text_of([1]), ("", [], 0))
        self.assert_same(text_of([0, 0]), ("", [], 2))
        self.assert_same(text_of([0, 0, 1]), ("", [], 2))

    def test_examples_and_arguments_by_name(self):
        row = [1, 0, 0, 0, 0, 0, 1, 0, 0, 1, 0, 1, 0]
        self.assert_same(text_of(row), ("A", [(2, "A")], 13))
        self.assert_same(text_of(bits=tuple(row)), ("A", [(2, "A")], 13))
        self.assert_same(readable(many=7), 32)
        self.assert_same(rows_of(many=7, text=""), 32)

    def test_answers_are_new_and_lists_asked_anew(self):
        row = bits_of([(2, "A1"), (1, "0")])
        self.assert_asked_anew(text_of, row)
        self.assertEqual(text_of(row)[0], "A10")
        row[-1] = 1
        self.assertEqual(text_of(row)[0], "A11")


class Reasons(Asking):

    def check_refused(self, text, at, why):
        for ahead in ([], [(1, "0")], [(2, "A1"), (3, "a" * 31)]):
            row = bits_of(ahead) + bits(text)
            self.assert_refused(Unread, {"at": len(bits_of(ahead)) + at, "why": why}, text_of, row)

    def test_short_within_the_number_of_signs(self):
        for text in ("01", "10", "11", "01 0", "01 0000", "11 1111", "10 0001"):
            self.check_refused(text, 0, "short")

    def test_no_signs(self):
        for text in ("01 00000", "10 00000", "11 00000", "01 00000 1111", "10 00000 00"):
            self.check_refused(text, 0, "count")

    def test_short_within_the_rest(self):
        for text in ("01 00001", "01 00001 111", "01 00010 110001", "01 00011 111110011", "01 00100 1111111111 111",
                     "10 00001 11111", "10 00010 1111111111", "10 00011 11111111111 11111", "11 00001 111111",
                     "11 00010 1111111 111111", "11 11111 1111111"):
            self.check_refused(text, 0, "short")

    def test_numbers_too_great(self):
        for text in ("01 00001 1010", "01 00010 1100100", "01 00011 1111101000", "01 00011 1111111111",
                     "01 00100 1111101000 0000", "01 00100 0000000000 1010", "01 00101 0000000000 1100100",
                     "10 00001 101001", "10 00010 11010010001", "10 00011 00000000000 101001",
                     "10 00011 11111111111 000000", "11 00001 1011100", "11 00010 0000000 1111111",
                     "11 00010 1111111 0000000 00"):
            self.check_refused(text, 0, "value")

    def test_the_greatest_numbers_are_read(self):
        for text, part in (("01 00001 1001", "9"), ("01 00010 1100011", "99"), ("01 00011 1111100111", "999"),
                           ("10 00001 101000", "-"), ("10 00010 11010010000", "--"), ("11 00001 1011011", "\n")):
            row = bits(text)
            self.assert_same(text_of(row), (part, [(2 * row[0] + row[1], part)], len(row)))

    def test_behind_the_end_nothing_is_looked_at(self):
        self.assert_same(text_of(bits("00 01 00000")), ("", [], 2))
        self.assert_same(text_of(bits("01 00001 0111 00 1")), ("7", [(1, "7")], 13))


class Counts(Asking):

    def test_numbers_up_to_a_thousand(self):
        for many in list(range(60)) + [99, 100, 223, 224, 225, 499, 500, 999, 1000]:
            self.assert_same(readable(many), counted_readable(many))

    def test_fewer_than_two_bits(self):
        self.assertEqual([readable(many) for many in (0, 1, 2, 7, 10)], [1, 2, 1, 32, 256])

    def test_rows_of_long_texts(self):
        dice = random.Random(6)
        texts = ["", "0" * 60, "A" * 60, "a" * 60] + ["".join(dice.choice("09AZ-az") for _ in range(many)) for many in (10, 59)]
        for text in texts:
            counts = writing.ways(text)
            for many in (0, 1, 2, min(counts) - 1, min(counts), min(counts) + 1, min(counts) + 2, min(counts) + 3,
                         400, 839, 840, 841, 842, 999, 1000):
                wanted = 0
                for size, lists in counts.items():
                    if size <= many:
                        wanted += lists * {0: 1, 1: 2}.get(many - size, 2 ** max(many - size - 2, 0))
                if many >= 0:
                    self.assert_same(rows_of(text, many), wanted)

    def test_the_empty_text(self):
        self.assertEqual([rows_of("", many) for many in (0, 1, 2, 3, 4, 1000)], [1, 2, 1, 2, 4, 2 ** 998])

    def test_one_piece_of_a_digit(self):
        # The digit alone in kinds 1 to 3 has 11, 13 and 14 bits.
        self.assertEqual([rows_of("7", many) for many in range(10, 17)], [0, 1, 2, 2, 5, 7, 11])


class Refusals(Asking):

    def test_no_list_of_bits(self):
        for thing in no_rows() + [0, 1, GREAT]:
            self.assert_refused(NoBits, {"index": -1}, text_of, thing)
            self.assert_refused(NoBits, {"index": -1}, text_of, bits=thing)

    def test_no_bit(self):
        for at, thing in enumerate(odd_values() + numbers_beyond(0, 1)):
            row = [0, 1, 0, 0]
            row[at % 4] = thing
            self.assert_refused(NoBits, {"index": at % 4}, text_of, row)
            self.assert_refused(NoBits, {"index": at % 4}, text_of, tuple(row) + (None, 2))
            # What stands behind the end, or behind a piece that cannot be read, must be bits, too.
            self.assert_refused(NoBits, {"index": 4 + at % 4}, text_of, [0, 0, 1, 1] + row)
            self.assert_refused(NoBits, {"index": 7 + at % 4}, text_of, [1, 1, 0, 0, 0, 0, 0] + row)

    def test_no_number(self):
        for many in odd_values() + numbers_beyond(0, 1000):
            self.assert_refused(NoNumber, {"part": "many"}, readable, many)
            self.assert_refused(NoNumber, {"part": "many"}, readable, many=many)
            self.assert_refused(NoNumber, {"part": "many"}, rows_of, "", many)
            self.assert_refused(NoNumber, {"part": "many"}, rows_of, many=many, text="A1")

    def test_no_text(self):
        for thing, index in no_texts():
            for many in (0, None, -1):
                self.assert_refused(NoText, {"index": index}, rows_of, thing, many)


if __name__ == "__main__":
    unittest.main()
