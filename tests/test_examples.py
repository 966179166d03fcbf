"""The examples of points 8 and 20, those behind points 14, 36, 57 and 72, and the blocks of "Examples"."""

import unittest

from dotquilts.codes import (
    check_words, is_twins, outcomes, repaired, rows_within, syndromes, twins, weights,
)
from dotquilts.distances import dot_weights, lightest, nearest_rows
from dotquilts.errors import NoPicture
from dotquilts.fields import divided, exponent, product, quotient, value
from dotquilts.fitting import data_row, least_size, most_signs
from dotquilts.misread import fate, is_misleading, least_lies
from dotquilts.paths import path
from dotquilts.pictures import drawing, ways_to_draw
from dotquilts.pieces import best_pieces, bits_of, least_bits
from dotquilts.poses import poses, turned
from dotquilts.reading import readable, text_of
from dotquilts.series import mixtures, mixtures_number, parity, parts
from dotquilts.stains import borne, fitting_count, is_harmless, least_harmful
from dotquilts.symbols import read, symbol
from dotquilts.views import read_picture


class Examples(unittest.TestCase):

    def test_fields(self):
        got = [product(4, 8, 2), quotient(4, 1, 2), exponent(4, 9), product(8, 128, 2), value(4, (1, 0, 3), 2),
               divided(4, (1, 0, 3), (1, 2))]
        self.assertEqual(repr(got), "[9, 12, 4, 113, 7, ([1, 2], [7])]")

    def test_rows(self):
        code = (4, 2, 0)
        got = [check_words(code, (1,)), syndromes(code, (1, 3, 7)), repaired(code, (1, 3, 7)),
               repaired(code, (None, 3, None)), rows_within(code, (1, 3, 0), 1)]
        self.assertEqual(repr(got), "[[3, 2], [5, 5], ([1, 3, 2], (2,)), ([1, 3, 2], ()), [[1, 3, 2]]]")

    def test_counts_and_twins(self):
        code = (4, 2, 0)
        got = [weights(code, 3), outcomes(code, 3, 2), twins(code, 3, 1, 0),
               is_twins(code, 3, 1, 1, ((None, 3, 0), (0, 0, 0), (1, 3, 2)))]
        self.assertEqual(repr(got), "[[1, 0, 0, 15], (0, 45, 630), None, True]")

    def test_texts(self):
        got = (best_pieces("12a"), least_bits("A1"), readable(7), text_of([1, 0, 0, 0, 0, 0, 1, 0, 0, 1, 0, 1, 0]))
        self.assertEqual(repr(got), "([(1, '12'), (3, 'a')], 18, 32, ('A', [(2, 'A')], 13))")
        got = (best_pieces("A1"), least_bits("12a"), len(bits_of([(3, "12a")])))
        self.assertEqual(repr(got), "([(2, 'A1')], 28, 28)")

    def test_data(self):
        got = (data_row("7", 1, 0), least_size("HELLO", 0), most_signs(1, 0, 1))
        self.assertEqual(repr(got), "([0, 1, 0, 0, 0, 0, 1, 0, 1, 1, 1, 0], 2, 1)")

    def test_codes_and_dots(self):
        code, dots = (4, 2, 0), (0, 0, 0, 1, 0, 0, 1, 1, None, None, None, None)
        got = [dot_weights(code, 3), lightest(code, 3), lightest(code, 3, within=(0, 2)), nearest_rows(code, dots)]
        self.assertEqual(repr(got), "[[1, 0, 0, 0, 4, 0, 4, 0, 7, 0, 0, 0, 0], (4, [1, 3, 2]), None, (0, [[1, 3, 2]])]")

    def test_wishes(self):
        got = [drawing(1, 3, 0, {(0, 1): 1}), ways_to_draw(1, 3, 0, {(0, 1): 0})]
        self.assertEqual(repr(got), "[('clash', [(0, 1)], []), 16]")

    def test_stains(self):
        got = [is_harmless(3, 0, path(3)[:32]), is_harmless(3, 0, path(3)[:33]), borne(2, 3, path(2)[:4]),
               fitting_count(1, 3, path(1)), least_harmful(1, 0, "lying"), least_harmful(1, 0, "lost")]
        pairs = "[(0, 4), (1, 3), (2, 2), (3, 1), (4, 0)]"
        self.assertEqual(repr(got), "[True, False, " + pairs + ", 16, [(2, 5)], [(2, 5), (3, 5)]]")
        self.assertEqual(repr(borne(4, 2, [(0, 0), (19, 19)])), "[(0, 2), (1, 1), (2, 0)]")

    def test_misreadings(self):
        got = [fate(1, 0, 3, (1, 2, 3), [(2, 5)]), fate(1, 0, 3, (1, 2, 3), [(0, 0)]), least_lies(1, 0)[0],
               is_misleading(1, 0, (1, 1, 0), [(3, 5), (5, 5)])]
        self.assertEqual(repr(got), "[('refused',), ('right',), 2, True]")

    def test_series(self):
        got = (parts("0123456789ABCDEF", 2, 0), parity("AB"), mixtures(["a", "b"], ["b", "a"]))
        self.assertEqual(repr(got), "(['0123456789', 'ABCDEF'], 1, ['ab', 'ba'])")
        self.assertEqual([parts("", 3, 0), mixtures_number(["a", "b"], ["b", "a"])], [[""], 2])

    def test_views(self):
        with self.assertRaises(NoPicture) as caught:
            read_picture(1, "########\n")
        self.assertEqual(caught.exception.line, 1)

    def test_symbols_and_poses(self):
        s = symbol("7", size=1, level=0, mask=0)
        got = [read(s), poses(turned(s, 1)), len(s), symbol("7", size=1, level=0, mask=0) == s]
        self.assertEqual(repr(got), "[('7', 1, 0, 0, []), [(1, False)], 8, True]")


if __name__ == "__main__":
    unittest.main()
