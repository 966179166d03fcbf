"""Point 12: rows with gaps and lying words, and what is repaired."""

import random
import unittest
from itertools import product

from dotquilts.codes import check_words, repaired
from dotquilts.errors import NoWord
from tests import reckoning
from tests.asking import Asking, odd_values
from tests.reckoning import SPANS


def right_row(code, length, dice):
    data = [dice.randrange(SPANS[code[0]]) for _ in range(length - code[1])]
    return data + check_words(code, data)


def spoilt(code, row, gaps, lies, dice):
    """The row with so many gaps and lying words anywhere, and the ascending indexes of the lying ones."""
    places = dice.sample(range(len(row)), gaps + lies)
    changed = list(row)
    for place in places[:gaps]:
        changed[place] = None
    for place in places[gaps:]:
        changed[place] ^= dice.randrange(1, SPANS[code[0]])
    return changed, tuple(sorted(places[gaps:]))


class AllRows(Asking):
    """Short codes, against all right rows gone through."""

    def check_all(self, code, length):
        wanted = reckoning.all_repairs(code, length)
        words = [None] + list(range(SPANS[code[0]]))
        for row in product(words, repeat=length):
            self.assert_same(repaired(code, row), wanted.get(row))

    def test_all_rows_of_four_bits(self):
        for code in ((4, 1, 0), (4, 1, 14), (4, 2, 0), (4, 2, 7)):
            self.check_all(code, code[1] + 1)
        self.check_all((4, 1, 3), 3)

    def test_all_rows_of_four_words(self):
        self.check_all((4, 3, 13), 4)

    def check_some(self, code, length, many):
        """Rows of any words, and rows within the bound."""
        dice = random.Random(12)
        wanted = reckoning.all_repairs(code, length)
        words = [None] + list(range(SPANS[code[0]]))
        rows = [tuple(dice.choice(words) for _ in range(length)) for _ in range(many)]
        near = dice.sample(sorted(wanted, key=repr), min(many, len(wanted)))
        for row in rows + near:
            self.assert_same(repaired(code, row), wanted.get(row))
            self.assert_same(repaired(code, list(row)), wanted.get(row))

    def test_some_rows_of_four_bits(self):
        self.check_some((4, 2, 5), 4, 3000)
        self.check_some((4, 4, 12), 5, 3000)

    def test_some_rows_of_eight_bits(self):
        self.check_some((8, 1, 0), 2, 1500)
        self.check_some((8, 1, 253), 2, 1500)
        self.check_some((8, 2, 254), 3, 1500)

    def test_rows_near_the_bound(self):
        """Codes with few right rows and many check words: what lies beyond the bound may lead elsewhere."""
        dice = random.Random(13)
        for code, length in (((4, 5, 2), 7), ((4, 6, 9), 8), ((4, 12, 14), 14), ((8, 6, 77), 7)):
            rights = reckoning.right_rows(code, length)
            for _ in range(60):
                gaps = dice.randrange(code[1] + 1)
                lies = min((code[1] - gaps) // 2 + dice.randrange(4), length - gaps)
                row, _ = spoilt(code, dice.choice(rights), gaps, lies, dice)
                self.assert_same(repaired(code, row), reckoning.nearest(code, row, rights))


class LongRows(Asking):

    def check_bound(self, code, length, gaps, dice):
        """All is found again just at the bound; with one gap more nothing is."""
        row = right_row(code, length, dice)
        lies = (code[1] - gaps) // 2
        changed, places = spoilt(code, row, gaps, lies, dice)
        self.assert_same(repaired(code, changed), (row, places))
        self.assert_same(repaired(code, tuple(changed)), (row, places))
        known = [at for at in range(length) if changed[at] is not None and at not in places]
        for place in known[:code[1] + 1 - 2 * lies - gaps]:
            changed[place] = None
        self.assertIsNone(repaired(code, changed))

    def test_gaps_and_lies_at_the_bound(self):
        dice = random.Random(14)
        for many in range(1, 15):
            for start in (0, 1, 6, 14):
                for length in sorted({many + 1, (many + 16) // 2, 15}):
                    for gaps in range(many + 1):
                        self.check_bound((4, many, start), length, gaps, dice)

    def test_gaps_and_lies_at_the_bound_with_eight_bits(self):
        dice = random.Random(15)
        for many in (1, 2, 5, 12, 39, 40):
            for start in (0, 60, 254):
                for length in (many + 1, many + 7, 255):
                    for gaps in sorted({0, 1, many // 2, many - 1, many}):
                        self.check_bound((8, many, start), length, gaps, dice)

    def test_beyond_the_bound_the_answer_is_within_it(self):
        dice = random.Random(16)
        for code, length in (((4, 2, 1), 15), ((4, 4, 0), 15), ((4, 3, 3), 15), ((8, 2, 9), 255), ((8, 3, 0), 200)):
            found = 0
            for _ in range(150):
                gaps = dice.randrange(2)
                row, _ = spoilt(code, right_row(code, length, dice), gaps, (code[1] - gaps) // 2 + 1, dice)
                answer = repaired(code, row)
                if answer is None:
                    continue
                found += 1
                self.assertTrue(reckoning.is_right(code, answer[0]))
                self.assertEqual(answer[1], reckoning.unlike(row, answer[0]))
                self.assertLessEqual(2 * len(answer[1]) + gaps, code[1])
            self.assertGreater(found, 0)

    def test_more_gaps_than_check_words(self):
        for code in ((4, 1, 0), (4, 14, 3), (8, 40, 7)):
            many, most = code[1], SPANS[code[0]] - 1
            for length in (many + 1, most):
                self.assertIsNone(repaired(code, [None] * length))
                self.assertIsNone(repaired(code, [None] * (many + 1) + [0] * (length - many - 1)))
                gapped = [None] * many + [0] * (length - many)
                self.assert_same(repaired(code, gapped), ([0] * length, ()))

    def test_lies_next_to_gaps_in_all_places(self):
        code, length = (4, 3, 2), 6
        row = [7, 0, 15] + check_words(code, [7, 0, 15])
        for gap in range(length):
            for lie in range(length):
                if lie != gap:
                    changed = list(row)
                    changed[gap] = None
                    changed[lie] ^= 9
                    self.assert_same(repaired(code, changed), (row, (lie,)))

    def test_right_rows_stay(self):
        dice = random.Random(17)
        for code, length in (((4, 1, 0), 2), ((4, 14, 14), 15), ((8, 40, 254), 255)):
            row = right_row(code, length, dice)
            self.assert_same(repaired(code, row), (row, ()))

    def test_examples(self):
        self.assert_same(repaired((4, 2, 0), (1, 3, 7)), ([1, 3, 2], (2,)))
        self.assert_same(repaired((4, 2, 0), (None, 3, None)), ([1, 3, 2], ()))

    def test_arguments_by_name(self):
        self.assertEqual(repaired(row=[1, 3, 7], code=(4, 2, 0)), ([1, 3, 2], (2,)))

    def test_answers_are_new_and_arguments_stay(self):
        for row in ([1, 3, 2], [1, 3, 7], [None, 3, 2]):
            before = list(row)
            self.assert_asked_anew(repaired, (4, 2, 0), row)
            self.assertEqual(row, before)

    def test_a_changed_list_is_asked_anew(self):
        row = [1, 3, 2]
        self.assertEqual(repaired((4, 2, 0), row), ([1, 3, 2], ()))
        row[2] = 7
        self.assertEqual(repaired((4, 2, 0), row), ([1, 3, 2], (2,)))
        row[0], row[1] = None, None
        self.assertEqual(repaired((4, 2, 0), row)[1], ())
        row[2] = None
        self.assertIsNone(repaired((4, 2, 0), row))


class Refusals(Asking):

    def test_no_row(self):
        things = [thing for thing in odd_values() if not isinstance(thing, (list, tuple))] + [0, 3]
        for code in ((4, 2, 0), (8, 2, 0)):
            for thing in things:
                self.assert_refused(NoWord, {"part": "row", "index": -1}, repaired, code, thing)
            for length in (0, 1, 2, SPANS[code[0]], 300):
                self.assert_refused(NoWord, {"part": "row", "index": -1}, repaired, code, [0] * length)
                self.assert_refused(NoWord, {"part": "row", "index": -1}, repaired, code, ["no"] * length)

    def test_no_word(self):
        for bits in SPANS:
            things = [thing for thing in odd_values() if thing is not None] + [-1, SPANS[bits], 10 ** 400]
            for at, thing in enumerate(things):
                place = at % 4
                row = [None, 1, None, 3, "no"]
                row[place] = thing
                self.assert_refused(NoWord, {"part": "row", "index": place}, repaired, (bits, 2, 1), row)
                self.assert_refused(NoWord, {"part": "row", "index": place}, repaired, (bits, 2, 1), tuple(row))


if __name__ == "__main__":
    unittest.main()
