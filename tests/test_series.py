"""Points 69 to 72: texts parted over several symbols."""

import random
from itertools import combinations, product

from dotquilts.errors import NoBits, NoLevel, NoParts, NoSeries, NoSize, NoText, TooLong, Unread
from dotquilts.reading import text_of
from dotquilts.series import (
    joined, lost, missing_parity, mixtures, mixtures_number, parity, part_of, parts, series,
)
from tests import writing
from tests.asking import GREAT, Asking, no_rows, no_texts, numbers_beyond, odd_values
from tests.test_stains import NO_LEVELS, NO_SIZES
from tests.walking import DATA_BITS, LEVELS, SIZES

PLACES = [(size, level) for size in SIZES for level in LEVELS]
ROOMY = [(size, level) for size, level in PLACES if DATA_BITS[size][level] >= 40]


def parity_of(text):
    total = 0
    for sign in text:
        total ^= writing.SIGNS.index(sign)
    return total


def parts_of(text, room):
    """The greedy parts, sign by sign; None if eight do not do."""
    if room < 0:
        return None
    found, left = [], text
    while left or not found:
        many = 0
        while many < len(left) and writing.best(left[:many + 1])[0] <= room:
            many += 1
        if (left and many == 0) or len(found) == 8:
            return None
        found.append(left[:many])
        left = left[many:]
    return found


def head(number, last, whole):
    return [int(bit) for bit in "0100000" + format(number, "03b") + format(last, "03b") + format(whole, "07b")]


def data_of(number, last, whole, text, many):
    """The data of one symbol, by hand."""
    bits = head(number, last, whole) + writing.bits_of(writing.best_pieces(text))
    left = many - len(bits)
    end = [0, 0] + [1, 0] * left if left > 1 else [0]
    return bits + end[:left]


def random_text(most, dice):
    text = ""
    while len(text) < most and dice.random() < 0.93:
        text += "".join(dice.choice(dice.choice(("0123456789", "AB .", "ab!", writing.SIGNS)))
                        for _ in range(dice.randrange(1, 9)))
    return text[:most]


class Parts(Asking):

    def test_parity(self):
        dice = random.Random(1)
        for text in ["", "0", "1", "\n", "AB", writing.SIGNS] + [random_text(300, dice) for _ in range(40)]:
            self.assert_same(parity(text), parity_of(text))
        for sign in writing.SIGNS:
            self.assert_same(parity(sign), writing.SIGNS.index(sign))
        for thing, index in no_texts():
            self.assert_refused(NoText, {"index": index}, parity, thing)

    def test_texts_of_all_kinds(self):
        dice = random.Random(2)
        numbers = set()
        for size, level in PLACES * 3:
            text = random_text(dice.choice((3, 12, 40, 120)), dice)
            many = DATA_BITS[size][level]
            wanted = parts_of(text, many - 20)
            if wanted is None:
                self.assert_refused(TooLong, {"bits": -1}, parts, text, size, level)
                self.assert_refused(TooLong, {"bits": -1}, series, text, size, level)
                continue
            numbers.add(len(wanted))
            self.assert_same(parts(text, size, level), wanted)
            rows = [data_of(at, len(wanted) - 1, parity_of(text), part, many) for at, part in enumerate(wanted)]
            self.assert_same(series(text, size, level), rows)
        self.assertGreater(len(numbers), 5)

    def test_no_fewer_parts(self):
        """Whatever the parts are, so few do not do: by going through all ways to part short texts."""
        dice = random.Random(3)
        for _ in range(12):
            text = "".join(dice.choice("0A a") for _ in range(9))
            told = parts(text, 2, 1)
            room = DATA_BITS[2][1] - 20
            for many in range(len(told) - 1):
                for cuts in combinations(range(1, len(text)), many):
                    pieces = [text[at:to] for at, to in zip((0,) + cuts, cuts + (len(text),))]
                    self.assertTrue(any(writing.best(piece)[0] > room for piece in pieces))

    def test_as_long_as_eight_symbols_do(self):
        for size, level in ROOMY:
            for sign in "0Aa":
                room = DATA_BITS[size][level] - 20
                each = 0
                while writing.best(sign * (each + 1))[0] <= room:
                    each += 1
                if 8 * each <= 300:
                    self.assert_same(parts(sign * 8 * each, size, level), [sign * each] * 8)
                    self.assert_same(parts(sign * (8 * each - 1), size, level), [sign * each] * 7 + [sign * (each - 1)])
                    self.assert_refused(TooLong, {"bits": -1}, parts, sign * (8 * each + 1), size, level)
                    self.assert_refused(TooLong, {"bits": -1}, series, sign * (8 * each + 1), size, level)

    def test_no_room_for_a_head_or_for_a_sign(self):
        for size, level in PLACES:
            if DATA_BITS[size][level] < 20:
                for text in ("", "0", "a" * 300):
                    self.assert_refused(TooLong, {"bits": -1}, parts, text, size, level)
                    self.assert_refused(TooLong, {"bits": -1}, series, text, size, level)
            else:
                self.assert_same(parts("", size, level), [""])
                self.assert_same(series("", size, level), [data_of(0, 0, 0, "", DATA_BITS[size][level])])
        # Twelve bits behind the head: a digit has room there, but no other sign.
        self.assert_same(parts("01234567", 2, 2), list("01234567"))
        for text in ("A", "1A", "a"):
            self.assert_refused(TooLong, {"bits": -1}, parts, text, 2, 2)
        self.assert_same(series("7", 2, 2), [data_of(0, 0, 7, "7", 32)])

    def test_errors(self):
        for call in (parts, series):
            for thing, index in no_texts():
                self.assert_refused(NoText, {"index": index}, call, thing, None, None)
            for size in NO_SIZES:
                self.assert_refused(NoSize, {"size": size}, call, "a" * 300, size, None)
            for level in NO_LEVELS:
                self.assert_refused(NoLevel, {"level": level}, call, "a" * 300, 1, level)
            self.assert_asked_anew(call, "0123456789ABCDEF", 2, 0)

    def test_examples(self):
        got = (parts("0123456789ABCDEF", 2, 0), parity("AB"), mixtures(["a", "b"], ["b", "a"]))
        self.assertEqual(repr(got), "(['0123456789', 'ABCDEF'], 1, ['ab', 'ba'])")
        self.assertEqual([parts("", 3, 0), mixtures_number(["a", "b"], ["b", "a"])], [[""], 2])


class PartOf(Asking):

    def by_reading(self, bits):
        """What part_of is to tell, or the place and the reason of Unread."""
        text = "".join(map(str, bits))
        if len(text) < 20 or not text.startswith("0100000") or text[7:10] > text[10:13]:
            return 0, "series"
        try:
            told = writing.read(bits[20:])[0]
        except writing.Refused as error:
            return error.args[0] + 20, error.args[1]
        return int(text[7:10], 2), int(text[10:13], 2), int(text[13:20], 2), told

    def test_any_bits(self):
        dice = random.Random(4)
        seen = {}
        for _ in range(1200):
            bits = head(dice.randrange(8), dice.randrange(8), dice.randrange(128))
            bits += [dice.randrange(2) for _ in range(dice.randrange(60))]
            if dice.random() < 0.4:
                bits[20:] = writing.bits_of(writing.best_pieces(random_text(20, dice))) + bits[20:]
            if dice.random() < 0.1:
                bits[dice.randrange(7)] ^= 1
            if dice.random() < 0.1:
                bits = bits[:dice.randrange(21)]
            wanted = self.by_reading(bits)
            if len(wanted) == 2:
                told = {"at": wanted[0], "why": wanted[1]}
                self.assert_refused(Unread, told, part_of, dice.choice((list, tuple))(bits))
                self.assert_refused(Unread, told, joined, [bits])
                self.assert_refused(Unread, told, lost, (bits, None))
            else:
                self.assert_same(part_of(bits), wanted)
                self.assert_same(part_of(tuple(bits)), wanted)
            seen[wanted[1] if len(wanted) == 2 else "told"] = seen.get(wanted[1] if len(wanted) == 2 else "told", 0) + 1
        self.assertEqual(sorted(seen), ["count", "series", "short", "told", "value"])
        self.assertGreater(min(seen.values()), 8)

    def test_heads(self):
        for number, last in product(range(8), repeat=2):
            bits = head(number, last, 127)
            if number > last:
                self.assert_refused(Unread, {"at": 0, "why": "series"}, part_of, bits)
            else:
                self.assert_same(part_of(bits), (number, last, 127, ""))
                self.assert_same(part_of(bits + [1]), (number, last, 127, ""))
                self.assert_refused(Unread, {"at": 20, "why": "short"}, part_of, bits + [1, 0])
                self.assert_refused(Unread, {"at": 0, "why": "series"}, part_of, bits[:19])
        self.assert_refused(Unread, {"at": 0, "why": "series"}, part_of, [])

    def test_never_read_as_a_text(self):
        dice = random.Random(5)
        for size, level in ROOMY:
            for row in series(random_text(20, dice)[:8], size, level):
                self.assert_refused(Unread, {"at": 0, "why": "count"}, text_of, row)

    def test_no_bits(self):
        for thing in no_rows() + [0, GREAT]:
            self.assert_refused(NoBits, {"index": -1}, part_of, thing)
        for at, thing in enumerate(odd_values() + numbers_beyond(0, 1)):
            bits = [0, 1, 0, 0, 0, 0, 0, 0, 0][:at % 9] + [thing, 2]
            self.assert_refused(NoBits, {"index": at % 9}, part_of, bits)
            self.assert_refused(NoBits, {"index": at % 9}, part_of, tuple(bits))


class Joined(Asking):

    def test_there_and_back(self):
        dice = random.Random(6)
        for size, level in ROOMY * 2:
            text = random_text(60, dice)
            try:
                rows = series(text, size, level)
            except TooLong:
                continue
            told = parts(text, size, level)
            more = rows + [list(dice.choice(rows)) for _ in range(3)]
            dice.shuffle(more)
            for given in (rows, more, tuple(tuple(row) for row in more)):
                self.assert_same(joined(given), text)
                self.assert_same(lost(given), (len(rows) - 1, parity_of(text), dict(enumerate(told))))
                self.assert_same(missing_parity(given), 0)

    def test_each_set_of_parts_left_out(self):
        dice = random.Random(7)
        texts = ["ab", "C", "", "12"]
        whole = parity_of("abC12")
        rows = [data_of(at, 3, whole, text, 60) for at, text in enumerate(texts)]
        for many in range(1, 5):
            for kept in combinations(range(4), many):
                given = [rows[at] for at in kept] + [rows[kept[0]]]
                dice.shuffle(given)
                lacking = [at for at in range(4) if at not in kept]
                self.assert_same(lost(given), (3, whole, {at: texts[at] for at in kept}))
                self.assertEqual(list(lost(given)[2]), list(kept))
                self.assert_same(missing_parity(given), parity_of("".join(texts[at] for at in lacking)))
                if lacking:
                    self.refuse("lacking", lacking, given)
        # One lacking part of one sign is told.
        self.assertEqual(writing.SIGNS[missing_parity(rows[:1] + rows[2:])], "C")

    def refuse(self, why, numbers, rows):
        for call in (joined, lost, missing_parity):
            if call is not joined and why in ("lacking", "parity"):
                continue
            for given in (rows, tuple(rows)):
                with self.assertRaises(NoSeries) as caught:
                    call(given)
                self.assertEqual((caught.exception.why, caught.exception.numbers), (why, numbers))
                self.assertIs(type(caught.exception.numbers), list)

    def test_mixed(self):
        rows = [data_of(0, 1, 5, "a", 50), data_of(1, 1, 5, "b", 50)]
        for other in (data_of(1, 2, 5, "b", 50), data_of(1, 1, 4, "b", 50), data_of(0, 0, 5, "a", 50)):
            self.refuse("mixed", [1], [rows[0], other])
            self.refuse("mixed", [2], rows + [other, other])
            # The first row tells what the series is.
            self.refuse("mixed", [1], [other, rows[0], rows[1]])
            # It comes ahead of unlike texts.
            self.refuse("mixed", [3], rows + [data_of(0, 1, 5, "c", 50), other])

    def test_twice(self):
        rows = [data_of(at, 3, 5, text, 50) for at, text in ((0, "a"), (2, "c"), (1, "b"))]
        self.refuse("twice", [0], rows + [data_of(0, 3, 5, "b", 50)])
        self.refuse("twice", [1], rows + [data_of(2, 3, 5, "x", 50), data_of(1, 3, 5, "y", 50)])
        self.refuse("twice", [2], rows + [rows[0], rows[1], data_of(2, 3, 5, "", 50)])
        # Other bits with the same text are no other text.
        longer = data_of(0, 3, 5, "a", 90)
        self.assert_same(lost(rows + [longer])[2], {0: "a", 1: "b", 2: "c"})

    def test_lacking_and_parity(self):
        self.refuse("lacking", [0, 2, 3], [data_of(1, 3, 5, "a", 50)])
        self.refuse("lacking", [7], [data_of(at, 7, 5, "a", 50) for at in range(7)])
        right = parity_of("ab")
        rows = [data_of(0, 1, right ^ 1, "a", 50), data_of(1, 1, right ^ 1, "b", 50)]
        self.refuse("parity", [], rows)
        self.assert_same(lost(rows), (1, right ^ 1, {0: "a", 1: "b"}))
        self.assert_same(missing_parity(rows), 1)

    def test_rows_that_are_none(self):
        good = data_of(0, 1, 5, "a", 50)
        for call in (joined, lost, missing_parity):
            for thing in no_rows() + [0, GREAT, [], ()]:
                self.assert_refused(NoBits, {"index": -1}, call, thing)
            for thing in no_rows():
                self.assert_refused(NoBits, {"index": -1}, call, [good, thing, None])
            self.assert_refused(NoBits, {"index": 2}, call, (good, [0, 1, 2, 3], []))
            self.assert_refused(Unread, {"at": 0, "why": "series"}, call, [good, [], [2]])
            self.assert_refused(Unread, {"at": 20, "why": "count"}, call, [data_of(0, 5, 1, "a", 50),
                                                                         head(0, 1, 5) + [1, 0, 0, 0, 0, 0, 0]])

    def test_new_answers(self):
        rows = series("HELLO WORLD, HELLO", 2, 0)
        self.assert_asked_anew(lost, rows)
        kept = repr(rows)
        joined(rows)
        missing_parity(rows)
        self.assertEqual(repr(rows), kept)


class Mixtures(Asking):

    def check(self, one, other):
        """By joined of all choices."""
        last, whole = len(one) - 1, parity_of("".join(one))
        texts, good = set(), 0
        for choice in product((0, 1), repeat=len(one)):
            chosen = [(one, other)[which][at] for at, which in enumerate(choice)]
            rows = [data_of(at, last, whole, text, 200) for at, text in enumerate(chosen)]
            try:
                texts.add(joined(rows))
                good += 1
            except NoSeries as error:
                self.assertEqual(error.why, "parity")
        self.assert_same(mixtures(one, other), sorted(texts))
        self.assert_same(mixtures(tuple(one), tuple(other)), sorted(texts))
        self.assert_same(mixtures_number(one, other), good)

    def test_drawn_parts(self):
        dice = random.Random(8)
        for many in (1, 2, 2, 3, 3, 4, 5, 6):
            one = [random_text(4, dice) for _ in range(many)]
            other = [dice.choice((text, text[::-1], random_text(4, dice))) for text in one]
            unlike = parity_of("".join(one)) ^ parity_of("".join(other))
            if unlike:
                # One sign, or two, make the parities alike.
                fitting = [(a, b) for a in writing.SIGNS for b in writing.SIGNS if parity_of(a + b) == unlike]
                other[-1] += "".join(dice.choice(fitting))
            self.check(one, other)

    def test_known_parts(self):
        self.check(["a", "b"], ["b", "a"])
        self.check(["a", "b"], ["a", "b"])
        self.check([""], [""])
        self.check(["a", "", "a"], ["", "", ""])
        self.check(["1", "2", "4", "7"], ["0", "0", "0", "0"])
        self.assert_same(mixtures(["a"] * 8, ["a"] * 8), ["a" * 8])
        self.assert_same(mixtures_number(["a"] * 8, ["a"] * 8), 256)
        self.assert_same(mixtures_number(["1", "2", "4", "7"], ["0"] * 4), 2)
        self.assertEqual(len(mixtures(["a"] * 8, ["b"] * 8)), 128)
        self.assert_asked_anew(mixtures, ["a", "b"], ["b", "a"])

    def test_errors(self):
        for call in (mixtures, mixtures_number):
            for thing in no_rows() + [0, GREAT, [], (), ["a"] * 9, ("",) * 20, "ab"]:
                self.assert_refused(NoParts, {"which": "one", "index": -1}, call, thing, None)
            for at, (thing, _) in enumerate(no_texts()):
                texts = ["a"] * (at % 7) + [thing, None]
                told = {"which": "one", "index": at % 7}
                self.assert_refused(NoParts, told, call, texts[:8], None)
                told = {"which": "other", "index": at % 7}
                self.assert_refused(NoParts, told, call, ["b"] * (at % 7 + 2), tuple(texts))
            for thing in no_rows() + [0, [], (), ["a"], ("a",) * 3, ["a"] * 9, "ab"]:
                self.assert_refused(NoParts, {"which": "other", "index": -1}, call, ["a", "b"], thing)
            for one, other in ((["a"], ["b"]), (("a", "b"), ["a", ""]), ([""], ["1"])):
                with self.assertRaises(NoSeries) as caught:
                    call(one=one, other=other)
                self.assertEqual((caught.exception.why, caught.exception.numbers), ("mixed", []))
