"""Point 19: texts as the data of symbols."""

import random
import unittest

from dotquilts.errors import NoLevel, NoNumber, NoSize, NoText, NoWords, TooLong, Unread
from dotquilts.fitting import data_row, data_words, greatest_level, least_size, most_signs, room, words_text
from dotquilts.reading import text_of
from tests import writing
from tests.asking import GREAT, Asking, no_rows, no_texts, numbers_beyond, odd_values
from tests.walking import BITS, DATA_BITS, LEVELS, SIZES
from tests.writing import OF_KIND

BY_TEXT = (data_row, data_words, room)
PLACES = [(size, level) for size in SIZES for level in LEVELS]


def wanted_row(text, size, level):
    """The data, bit by bit as point 19 tells them."""
    row = writing.bits_of(writing.best_pieces(text))
    left = DATA_BITS[size][level] - len(row)
    if left == 1:
        return row + [0]
    if left >= 2:
        row += [0, 0]
        while len(row) < DATA_BITS[size][level]:
            row.append(1)
            if len(row) < DATA_BITS[size][level]:
                row.append(0)
    return row


def wanted_words(row, bits):
    text = "".join(str(bit) for bit in row)
    return [int(text[at:at + bits], 2) for at in range(0, len(text), bits)]


def texts_by_bits():
    """For each number of bits a text that needs just so many, where there is one among these."""
    texts = ["a" * small + "A" * capitals for small in range(53) for capitals in range(7)]
    texts += ["a" * small + "A" * capitals for small in range(4) for capitals in range(64)]
    texts += ["a" * small + "0" * digits for small in range(4) for digits in range(104)]
    texts += ["A" * 7 + "0" * digits for digits in (8, 18, 27)]
    found = {}
    for text in texts:
        found.setdefault(writing.best(text)[0], text)
    return found


TEXTS = texts_by_bits()


class Data(Asking):

    def check(self, text, size, level):
        bits = writing.best(text)[0]
        left = DATA_BITS[size][level] - bits
        self.assert_same(room(text, size, level), left)
        if left < 0:
            for call in (data_row, data_words):
                self.assert_refused(TooLong, {"bits": -left}, call, text, size, level)
            return
        row = data_row(text, size, level)
        self.assert_same(row, wanted_row(text, size, level))
        self.assertEqual(len(row), DATA_BITS[size][level])
        words = data_words(text, size, level)
        self.assert_same(words, wanted_words(row, BITS[size]))
        told = (text, writing.best_pieces(text), bits + (2 if left >= 2 else 0))
        self.assert_same(text_of(row), told)
        self.assert_same(words_text(size, words), told)
        self.assert_same(words_text(size, tuple(words)), told)

    def test_texts_that_fill_a_symbol_just_so(self):
        """To the last bit, to the last bit but one, with room for the end alone, and one bit too many."""
        for size, level in PLACES:
            full = DATA_BITS[size][level]
            if full > 40:
                self.assertLessEqual({full - 2, full - 1, full, full + 1}, set(TEXTS))
            for bits in range(full - 4, full + 4):
                if bits in TEXTS:
                    self.check(TEXTS[bits], size, level)

    def test_one_sign_more(self):
        for size, level in PLACES:
            for kind, signs in OF_KIND.items():
                many = most_signs(size, level, kind)
                self.check(signs[-1] * many, size, level)
                self.check(signs[-1] * (many + 1), size, level)

    def test_texts_of_all_sorts(self):
        dice = random.Random(19)
        texts = ["", "7", "A", "a", "HELLO", "Hello 12345", "\n", "a" * 300, "0" * 300]
        texts += ["".join(dice.choice(writing.SIGNS[:50]) for _ in range(many)) for many in (3, 8, 17, 40)]
        for text in texts:
            for size, level in PLACES:
                self.check(text, size, level)

    def test_written_out(self):
        self.assert_same(data_row("7", 1, 0), [0, 1, 0, 0, 0, 0, 1, 0, 1, 1, 1, 0])
        self.assert_same(data_words("7", 1, 0), [4, 2, 14])
        self.assert_same(data_row("", 1, 3), [0, 0, 1, 0])
        self.assert_same(data_row("", 1, 1), [0, 0, 1, 0, 1, 0, 1, 0])
        self.assert_same(data_words("", 2, 3), [2, 10, 10, 10])
        self.assert_same(room("", 1, 3), 4)
        self.assert_same(room("a" * 300, 1, 3), 4 - 7 * 310)
        self.assert_refused(TooLong, {"bits": 1}, data_row, "A", 1, 0)

    def test_arguments_by_name_and_new_answers(self):
        for call in BY_TEXT:
            self.assertEqual(call(level=1, size=3, text="aA0"), call("aA0", 3, 1))
        self.assertEqual(words_text(words=[4, 2, 14], size=1), words_text(1, [4, 2, 14]))
        for call in (data_row, data_words):
            self.assert_asked_anew(call, "aA0", 3, 1)
        words = [4, 2, 14]
        self.assert_asked_anew(words_text, 1, words)
        words[2] = 6
        self.assertEqual(words_text(1, words)[0], "3")
        self.assertEqual(words, [4, 2, 6])


class Words(Asking):

    def test_any_number_of_words(self):
        for size in SIZES:
            self.assert_same(words_text(size, []), ("", [], 0))
            self.assert_same(words_text(size, ()), ("", [], 0))
            self.assert_same(words_text(size, [0] * 100), ("", [], 2))
        # The rest of a word behind the pieces, or behind the end, is not looked at.
        self.assert_same(words_text(1, [4, 2, 15]), ("7", [(1, "7")], 11))
        self.assert_same(words_text(3, [66, 225]), ("7", [(1, "7")], 13))

    def test_unread(self):
        for size, words, at, why in ((1, [4], 0, "short"), (1, [4, 0], 0, "count"), (1, [4, 2], 0, "short"),
                                     (1, [4, 3, 4], 0, "value"), (3, [66, 232], 11, "short"), (3, [64, 0], 0, "count"),
                                     (5, [67, 64], 0, "value")):
            self.assert_refused(Unread, {"at": at, "why": why}, words_text, size, words)

    def test_all_two_words_of_four_bits(self):
        for one in range(16):
            for other in range(16):
                row = [int(bit) for bit in format(16 * one + other, "08b")]
                try:
                    wanted = writing.read(row)
                except writing.Refused as refused:
                    at, why = refused.args
                    self.assert_refused(Unread, {"at": at, "why": why}, words_text, 2, [one, other])
                else:
                    self.assert_same(words_text(2, [one, other]), wanted)


class Room(Asking):

    def wanted_size(self, bits, level):
        return next((size for size in SIZES if DATA_BITS[size][level] >= bits), None)

    def wanted_level(self, bits, size):
        return next((level for level in reversed(LEVELS) if DATA_BITS[size][level] >= bits), None)

    def test_least_sizes_and_greatest_levels(self):
        for bits, text in TEXTS.items():
            for level in LEVELS:
                self.assert_same(least_size(text, level), self.wanted_size(bits, level))
            for size in SIZES:
                self.assert_same(greatest_level(text, size), self.wanted_level(bits, size))

    def test_written_out(self):
        self.assert_same(least_size("HELLO", 0), 2)
        self.assert_same(least_size(level=3, text=""), 1)
        self.assert_same(least_size("a" * 51, 0), None)
        self.assert_same(greatest_level("7", 1), 0)
        self.assert_same(greatest_level(size=1, text="A"), None)
        self.assert_same(greatest_level("", 5), 3)


class MostSigns(Asking):

    def test_against_texts_that_need_the_most(self):
        """A text of a kind needs the most bits if none of its signs is of a lower kind."""
        dice = random.Random(7)
        for kind, lower in ((1, ""), (2, OF_KIND[1]), (3, OF_KIND[2])):
            signs = [sign for sign in OF_KIND[kind] if sign not in lower]
            needs = [writing.best("".join(dice.choice(signs) for _ in range(many)))[0] for many in range(125)]
            for size, level in PLACES:
                many = most_signs(size, level, kind)
                self.assertIs(type(many), int)
                self.assertLessEqual(needs[many], DATA_BITS[size][level])
                self.assertGreater(needs[many + 1], DATA_BITS[size][level])

    def test_there_is_room_for_each_text(self):
        dice = random.Random(8)
        for size, level in PLACES:
            for kind, signs in OF_KIND.items():
                many = most_signs(size, level, kind)
                for few in (1, 2, 5, len(signs)):
                    text = "".join(dice.choice(dice.sample(signs, few)) for _ in range(many))
                    self.assertGreaterEqual(room(text, size, level), 0)

    def test_written_out(self):
        self.assert_same(most_signs(1, 0, 1), 1)
        self.assertEqual([most_signs(1, level, kind) for level in LEVELS for kind in (1, 2, 3)], [1] + [0] * 11)
        self.assertEqual([most_signs(kind=kind, level=0, size=5) for kind in (1, 2, 3)], [102, 63, 50])


class Refusals(Asking):

    def no_sizes(self):
        return odd_values() + numbers_beyond(1, 5)

    def no_levels(self):
        return odd_values() + numbers_beyond(0, 3)

    def test_no_text_goes_ahead(self):
        for thing, index in no_texts():
            for call in BY_TEXT:
                for size, level in ((1, 0), (None, None), (0, 9)):
                    self.assert_refused(NoText, {"index": index}, call, thing, size, level)
            for call in (least_size, greatest_level):
                for other in (1, None, 9):
                    self.assert_refused(NoText, {"index": index}, call, thing, other)

    def test_no_size(self):
        long = "a" * 300
        for size in self.no_sizes():
            for call in BY_TEXT:
                for level in (0, None, 4):
                    self.assert_refused(NoSize, {"size": size}, call, long, size, level)
                self.assert_refused(NoSize, {"size": size}, call, level=None, size=size, text="")
            self.assert_refused(NoSize, {"size": size}, greatest_level, long, size)
            for level, kind in ((0, 1), (0, None), (None, None), (4, 4)):
                self.assert_refused(NoSize, {"size": size}, most_signs, size, level, kind)
            for words in ([], None, [None], [256], [4]):
                self.assert_refused(NoSize, {"size": size}, words_text, size, words)

    def test_no_level(self):
        long = "a" * 300
        for level in self.no_levels():
            for call in BY_TEXT:
                self.assert_refused(NoLevel, {"level": level}, call, long, 1, level)
                self.assert_refused(NoLevel, {"level": level}, call, "", 5, level)
            self.assert_refused(NoLevel, {"level": level}, least_size, long, level)
            self.assert_refused(NoLevel, {"level": level}, least_size, level=level, text="")
            for kind in (1, None, 4):
                self.assert_refused(NoLevel, {"level": level}, most_signs, 1, level, kind)

    def test_no_kind(self):
        for kind in odd_values() + numbers_beyond(1, 3):
            for size, level in ((1, 3), (5, 0)):
                self.assert_refused(NoNumber, {"part": "kind"}, most_signs, size, level, kind)

    def test_no_words(self):
        for size in SIZES:
            for thing in no_rows() + [0, GREAT]:
                self.assert_refused(NoWords, {"index": -1}, words_text, size, thing)
            for at, thing in enumerate(odd_values() + numbers_beyond(0, 2 ** BITS[size] - 1)):
                # Bits that cannot be read come behind each word that is none.
                words = [15, 0, 15, 0]
                words[at % 4] = thing
                self.assert_refused(NoWords, {"index": at % 4}, words_text, size, words)
                self.assert_refused(NoWords, {"index": at % 4}, words_text, size, tuple(words) + (None,))
        self.assert_refused(NoWords, {"index": 1}, words_text, 1, [0, 16])
        self.assertEqual(words_text(3, [0, 16]), ("", [], 2))


if __name__ == "__main__":
    unittest.main()
