"""Point 74: grids as texts, and back."""

import random

from dotquilts.errors import NoGrid, NoPicture, NoSize
from dotquilts.views import picture_of, read_picture
from tests import drawing
from tests.asking import GREAT, Asking, no_grids, odd_values
from tests.test_stains import NO_SIZES, random_data
from tests.walking import SIDES, SIZES


def random_grid(size, dice):
    return [[dice.choice((0, 1, None)) for _ in range(SIDES[size])] for _ in range(SIDES[size])]


class Views(Asking):

    def test_there_and_back(self):
        dice = random.Random(1)
        for size in SIZES:
            for grid in (random_grid(size, dice), drawing.symbol_of(size, 1, 2, random_data(size, 1, dice)),
                         [[None] * SIDES[size]] * SIDES[size]):
                text = picture_of(size, grid)
                lines = ["".join({0: ".", 1: "#", None: "?"}[dot] for dot in dots) for dots in grid]
                self.assert_same(text, "\n".join(lines) + "\n")
                self.assert_same(picture_of(size, tuple(tuple(dots) for dots in grid)), text)
                self.assert_same(read_picture(size, text), [list(dots) for dots in grid])
                self.assert_asked_anew(read_picture, size, text)

    def refuse(self, line, size, text):
        self.assert_refused(NoPicture, {"line": line}, read_picture, size, text)

    def test_texts_spoilt_in_each_line(self):
        dice = random.Random(2)
        for size in SIZES:
            many = SIDES[size]
            lines = [line + "\n" for line in picture_of(size, random_grid(size, dice)).split("\n")[:-1]]
            for at in range(many):
                line = lines[at]
                to = dice.randrange(many)
                wrong = [line[:-1], line[1:], "#" + line, "", "\n"]
                wrong += [line[:-1] + more for more in ("\r\n", " \n", "#")]
                wrong += [line[:to] + sign + line[to + 1:] for sign in "x \n0_%\t\u0660\U0001f600"]
                wrong += [line[:-1] + "\r", line[:-1] + "\u2028", line[:to] + "\n" + line[to:]]
                for thing in wrong:
                    text = "".join(lines[:at]) + thing
                    self.refuse(at, size, text + "".join(lines[at + 1:]) if thing else text)
                    self.refuse(at, size, text + "x\n" * (many - at - 1) if thing else text)
            for more in ("\n", "#", " ", lines[0], "x" * 1000):
                self.refuse(many, size, "".join(lines) + more)
            self.refuse(many - 1, size, "".join(lines)[:-1])
            self.refuse(0, size, "")

    def test_no_text(self):
        for thing in odd_values() + [0, GREAT, ["#"], b"########\n" * 8]:
            self.refuse(0 if isinstance(thing, str) else -1, 1, thing)

    def test_no_size_and_no_grid(self):
        dice = random.Random(3)
        for size in NO_SIZES:
            self.assert_refused(NoSize, {"size": size}, picture_of, size, None)
            self.assert_refused(NoSize, {"size": size}, read_picture, size, None)
        for size in SIZES:
            for thing, row, column in no_grids(random_grid(size, dice)):
                self.assert_refused(NoGrid, {"row": row, "column": column}, picture_of, size, thing)

    def test_example(self):
        self.refuse(1, 1, "########\n")
