"""Points 64 to 67: finding symbols in pictures, and painting them there."""

import random

from dotquilts.errors import NoGrid, NoPlace
from dotquilts.finding import cut, painted, places, read_all, stands
from tests import drawing, walking
from tests.asking import GREAT, Asking, no_grids, odd_values, wrong_dots
from tests.drawing import POSES
from tests.test_stains import random_data
from tests.walking import LEVELS, SIDES, SIZES

SEVEN = drawing.symbol_of(1, 0, 0, [4, 2, 14])


def random_symbol(size, dice):
    level = dice.choice(LEVELS)
    return drawing.symbol_of(size, level, dice.randrange(8), random_data(size, level, dice))


def blank(rows, columns, dot=0):
    return [[dot] * columns for _ in range(rows)]


def lay(picture, place, grid):
    """By hand: the grid in its pose, each dot as often as the scale tells, with light dots around."""
    row, column, size, scale, turn, flip = place
    many = SIDES[size]
    here = drawing.posed(grid, (turn, flip))
    for down in range(-scale, (many + 1) * scale):
        for right in range(-scale, (many + 1) * scale):
            if 0 <= row + down < len(picture) and 0 <= column + right < len(picture[0]):
                inside = 0 <= down < many * scale and 0 <= right < many * scale
                picture[row + down][column + right] = here[down // scale][right // scale] if inside else 0


def module(picture, row, column, scale):
    dots = [picture[row + down][column + right] for down in range(scale) for right in range(scale)]
    return dots[0] if all(dot == dots[0] for dot in dots) else None


def cut_by_hand(picture, place):
    row, column, size, scale, turn, flip = place
    many = range(SIDES[size])
    grid = [[module(picture, row + down * scale, column + right * scale, scale) for right in many] for down in many]
    return drawing.unposed(grid, (turn, flip))


def light_around(picture, place):
    row, column, size, scale, _, _ = place
    many = SIDES[size] * scale
    for at in range(row - scale, row + many + scale):
        for to in range(column - scale, column + many + scale):
            inside = row <= at < row + many and column <= to < column + many
            if not inside and 0 <= at < len(picture) and 0 <= to < len(picture[0]) and picture[at][to] != 0:
                return False
    return True


def stands_by_hand(picture, place):
    row, column, size, scale, turn, flip = place
    last = SIDES[size] - 1
    # Most squares are told by one of the corners, which are the same in all poses but for one of them.
    corners = [module(picture, row + down * scale, column + right * scale, scale) for down in (0, last)
               for right in (0, last)]
    if sorted(str(dot) for dot in corners) != ["0", "1", "1", "1"]:
        return False
    grid = cut_by_hand(picture, place)
    return all(grid[dot[0]][dot[1]] == value for dot, value in walking.border(size).items()) \
        and light_around(picture, place)


def all_places(picture):
    most = min(len(picture), len(picture[0]))
    return [(row, column, size, scale, turn, flip)
            for row in range(len(picture)) for column in range(len(picture[0])) for size in SIZES
            for scale in range(1, most // SIDES[size] + 1) for turn, flip in POSES
            if row + SIDES[size] * scale <= len(picture) and column + SIDES[size] * scale <= len(picture[0])]


def places_by_hand(picture):
    return [place for place in all_places(picture) if stands_by_hand(picture, place)]


def random_place(rows, columns, dice):
    size = dice.choice([size for size in SIZES if SIDES[size] <= min(rows, columns)])
    scale = dice.randrange(1, min(rows, columns) // SIDES[size] + 1)
    many = SIDES[size] * scale
    return (dice.randrange(rows - many + 1), dice.randrange(columns - many + 1), size, scale) + dice.choice(POSES)


class Found(Asking):

    def check(self, picture):
        found = places(picture)
        self.assert_same(found, places_by_hand(picture))
        self.assert_same(places(tuple(tuple(dots) for dots in picture)), found)
        return found

    def test_drawn_pictures_square_by_square(self):
        dice = random.Random(1)
        many = 0
        for _ in range(30):
            rows, columns = dice.randrange(8, 34), dice.randrange(8, 34)
            picture = [[dice.choice((0, 0, 1, None)) for _ in range(columns)] for _ in range(rows)]
            laid = []
            for _ in range(dice.randrange(1, 4)):
                place = random_place(rows, columns, dice)
                lay(picture, place, random_symbol(place[2], dice))
                laid.append(place)
            # The last one lies over the others.
            found = self.check(picture)
            self.assertIn(laid[-1], found)
            many += len(found)
            for place in laid + dice.sample(all_places(picture), 5):
                self.assertIs(stands(picture, place), stands_by_hand(picture, place))
                self.assert_same(cut(picture, place), cut_by_hand(picture, place))
            row, column = dice.randrange(rows), dice.randrange(columns)
            picture[row][column] = dice.choice((0, 1, None))
            self.check(picture)
        self.assertGreater(many, 25)

    def test_margins_that_are_hurt(self):
        dice = random.Random(2)
        for scale in (1, 2):
            for turn, flip in POSES:
                place = (5, 4, 1, scale, turn, flip)
                picture = blank(12 + 8 * scale, 11 + 8 * scale, 1)
                lay(picture, place, SEVEN)
                many = 8 * scale
                inside = [(at, to) for at in range(5, 5 + many) for to in range(4, 4 + many)]
                margin = [(at, to) for at in range(5 - scale, 5 + many + scale)
                          for to in range(4 - scale, 4 + many + scale) if (at, to) not in inside]
                corners = [margin[0], margin[many + 2 * scale - 1], margin[-1], margin[-many - 2 * scale]]
                self.assertTrue(stands(picture, place))
                for at, to in corners + dice.sample(margin, 4):
                    for dot in (1, None):
                        picture[at][to] = dot
                        self.assertIs(stands(picture, place), False)
                        self.assert_same(places(picture), [])
                    picture[at][to] = 0
                self.assert_same(places(picture), [place])
                # A dot that is one further away is nobody's margin.
                picture[4 - scale][4 - scale] = None
                self.assertIs(stands(picture, place), True)

    def test_borders_that_are_hurt(self):
        for size in SIZES:
            grid = drawing.symbol_of(size, 2, 3, [0] * drawing.data_count(size, 2))
            many = SIDES[size]
            for turn, flip in POSES:
                place = (1, 1, size, 1, turn, flip)
                picture = blank(many + 2, many + 2)
                lay(picture, place, grid)
                self.assert_same(places(picture), [place])
                for at, to in ((1, 1), (1, many), (many, 1), (many, many), (1, 4), (5, 1), (many, 6), (3, many)):
                    kept = picture[at][to]
                    for dot in (1 - kept, None):
                        picture[at][to] = dot
                        self.assertIs(stands(picture, place), False)
                        self.assert_same(places(picture), [])
                    picture[at][to] = kept
                # What is within the border may be anything.
                picture[3][3] = None
                picture[4][3] ^= 1
                self.assert_same(places(picture), [place])

    def test_at_the_edge_of_the_picture(self):
        dice = random.Random(3)
        for size in SIZES:
            for scale in (1, 2, 120 // SIDES[size]):
                many = SIDES[size] * scale
                low, right = min(3, 120 - many), min(1, 120 - many)
                for rows, columns, row, column in ((many, many, 0, 0), (many + low, many, low, 0),
                                                   (many, many + right, 0, right)):
                    place = (row, column, size, scale) + dice.choice(POSES)
                    picture = blank(rows, columns)
                    lay(picture, place, random_symbol(size, dice))
                    self.assertIs(stands(picture, place), True)
                    self.assert_same(places(picture), [place])

    def test_margins_at_the_edge_of_the_picture(self):
        """The margin ends with the picture; what there is of it must be light, the first and the last lines, too."""
        for row in (0, 1, 2):
            for column in (0, 1, 2):
                place = (row, column, 1, 2, 0, False)
                picture = blank(row + 16 + row, column + 16 + column)
                lay(picture, place, SEVEN)
                self.assert_same(places(picture), [place])
                for at in range(len(picture)):
                    for to in range(len(picture[0])):
                        if not (row <= at < row + 16 and column <= to < column + 16):
                            picture[at][to] = 1
                            self.assertIs(stands(picture, place), False)
                            self.assert_same(places(picture), [])
                            picture[at][to] = 0

    def test_great_pictures(self):
        dice = random.Random(4)
        picture = [[dice.choice((0, 1, None)) for _ in range(120)] for _ in range(120)]
        laid = [(0, 0, 5, 2, 1, True), (0, 60, 3, 3, 0, False), (60, 2, 2, 4, 3, False), (70, 70, 4, 2, 2, True),
                (112, 112, 1, 1, 0, True), (112, 50, 1, 1, 3, True)]
        grids = {}
        for place in laid:
            grids[place] = random_symbol(place[2], dice)
            picture = painted(picture, place, grids[place])
        self.assert_same(places(picture), sorted(laid))
        for place in laid:
            self.assert_same(cut(picture, place), grids[place])
            others = [place[:4] + pose for pose in POSES if pose != place[4:]]
            self.assertFalse(any(stands(picture, other) for other in others))

    def test_turned_mirrored_and_greater_pictures(self):
        dice = random.Random(5)
        for _ in range(6):
            picture = [[dice.choice((0, 0, 1)) for _ in range(30)] for _ in range(30)]
            for _ in range(3):
                place = random_place(30, 30, dice)
                lay(picture, place, random_symbol(place[2], dice))
            found = places(picture)
            self.assertTrue(found)
            mirrored = [dots[::-1] for dots in picture]
            wanted = sorted((row, 30 - column - SIDES[size] * scale, size, scale, -turn % 4, not flip)
                            for row, column, size, scale, turn, flip in found)
            self.assert_same(places(mirrored), wanted)
            turned = [list(column) for column in zip(*picture[::-1])]
            wanted = sorted((column, 30 - row - SIDES[size] * scale, size, scale, (turn + 1) % 4, flip)
                            for row, column, size, scale, turn, flip in found)
            self.assert_same(places(turned), wanted)
            for times in (2, 4):
                great = [[dot for dot in dots for _ in range(times)] for dots in picture for _ in range(times)]
                wanted = [(row * times, column * times, size, scale * times, turn, flip)
                          for row, column, size, scale, turn, flip in found]
                self.assert_same(places(great), wanted)

    def test_pictures_without_symbols(self):
        for rows, columns in ((1, 1), (1, 120), (120, 1), (7, 7), (8, 7), (120, 120), (24, 8)):
            for dot in (0, 1, None):
                self.assert_same(places(blank(rows, columns, dot)), [])
                self.assert_same(read_all(blank(rows, columns, dot)), [])


class Read(Asking):

    def test_texts_and_what_is_refused(self):
        picture = blank(40, 40)
        texts = {(1, 1, 1, 1, 0, False): ("7", SEVEN), (11, 1, 1, 2, 2, True): ("7", SEVEN),
                 (1, 20, 1, 1, 1, False): (None, drawing.symbol_of(1, 0, 0, [4, 0, 0])),
                 (28, 20, 2, 1, 3, True): ("", drawing.symbol_of(2, 1, 4, [0] * 12))}
        hurt = [list(dots) for dots in SEVEN]
        hurt[5][5] ^= 1
        texts[30, 3, 1, 1, 3, False] = (None, hurt)
        lost = [list(dots) for dots in SEVEN]
        lost[5][5] = None
        texts[12, 30, 1, 1, 0, True] = ("7", lost)
        for place, (_, grid) in texts.items():
            lay(picture, place, grid)
        wanted = [(place, texts[place][0]) for place in sorted(texts)]
        self.assert_same(read_all(picture), wanted)
        self.assert_same(read_all(picture=tuple(map(tuple, picture))), wanted)
        self.assert_asked_anew(read_all, picture)
        self.assert_asked_anew(places, picture)


class Painted(Asking):

    def test_there_and_back(self):
        dice = random.Random(6)
        for _ in range(60):
            rows, columns = dice.randrange(8, 50), dice.randrange(8, 50)
            picture = [[dice.choice((0, 1, None)) for _ in range(columns)] for _ in range(rows)]
            place = random_place(rows, columns, dice)
            grid = random_symbol(place[2], dice)
            for _ in range(3):
                grid[dice.randrange(SIDES[place[2]])][dice.randrange(SIDES[place[2]])] = dice.choice((0, 1, None))
            kept = repr(picture)
            told = painted(picture, place, dice.choice((list, tuple))(grid))
            self.assertEqual(repr(picture), kept)
            wanted = [list(dots) for dots in picture]
            lay(wanted, place, grid)
            self.assert_same(told, wanted)
            self.assert_same(cut(told, place), grid)
            self.assertIs(stands(told, place), all(grid[row][column] == value for (row, column), value
                                                   in walking.border(place[2]).items()))

    def test_modules_that_are_not_alike(self):
        place = (0, 0, 1, 3, 0, False)
        picture = painted(blank(24, 24), place, SEVEN)
        for at, to, dot in ((0, 0, 0), (4, 4, None), (12, 9, 1 - picture[12][9]), (23, 23, None)):
            picture[at][to] = dot
        wanted = [list(dots) for dots in SEVEN]
        for at, to in ((0, 0), (1, 1), (4, 3), (7, 7)):
            wanted[at][to] = None
        self.assert_same(cut(picture, place), wanted)
        picture[12:15] = [dots[:9] + [None] * 3 + dots[12:] for dots in picture[12:15]]
        self.assert_same(cut(picture, place), wanted)

    def test_new_answers(self):
        picture = [list(dots) for dots in SEVEN]
        place = (0, 0, 1, 1, 0, False)
        self.assert_asked_anew(cut, picture, place)
        self.assert_asked_anew(painted, picture, place, SEVEN)
        self.assert_asked_anew(painted, picture, (0, 0, 1, 1, 3, True), SEVEN)
        told = painted(picture=picture, place=place, grid=SEVEN)
        self.assert_same(told, SEVEN)
        picture[0][0] = 0
        self.assertEqual(places(picture), [])


def no_pictures():
    """Triples of what is no picture and the row and the column that NoGrid is to tell."""
    good = [0, 1, None]
    found = [(thing, -1, -1) for thing in odd_values() if not isinstance(thing, (list, tuple))]
    found += [(thing, -1, -1) for thing in ([], (), [good] * 121, (good,) * 400, 0, "01")]
    for at, thing in enumerate(odd_values() + [0, [], (), [0] * 2, [0] * 4, (0,) * 4, "010"]):
        if not isinstance(thing, (list, tuple)) or len(thing) != 3:
            row = at % 3 + 1
            found.append(([good] * row + [thing] + [None, [2]], row, -1))
            found.append(((tuple(good),) * row + (thing,), row, -1))
    for thing in (None, [], (), 0, "0", [0] * 121, (0,) * 500):
        found.append(([thing, None], 0, -1))
    for at, thing in enumerate(wrong_dots()):
        row, column = at % 4, at % 3
        dots = good[:column] + [thing] + [7] * (2 - column)
        found.append(([good] * row + [dots, None], row, column))
        found.append(((tuple(good),) * row + (tuple(dots),), row, column))
        alone = good[:column] + [thing] + good[column + 1:]
        found.append(([good] * row + [alone] + [good] * 2, row, column))
    return found


class Errors(Asking):

    def test_no_picture(self):
        for thing, row, column in no_pictures():
            told = {"row": row, "column": column}
            for call in (places, read_all):
                self.assert_refused(NoGrid, told, call, thing)
            for call, behind in ((stands, (None,)), (cut, (None,)), (painted, (None, None))):
                self.assert_refused(NoGrid, told, call, thing, *behind)

    def test_no_place(self):
        picture = blank(20, 17)
        wrong = odd_values() + [0, (), (0, 0, 1, 1, 0), (0, 0, 1, 1, 0, False, 0), [0, 0, 1, 1, 0, False]]
        good = (0, 0, 1, 1, 0, False)
        for at in range(6):
            things = odd_values() + [-1, GREAT, -GREAT] + ([0, 6] if at == 2 else []) + ([0] if at == 3 else [])
            things += [4] if at == 4 else []
            for thing in things:
                if at == 5 and isinstance(thing, bool):
                    continue
                wrong.append(good[:at] + (thing,) + good[at + 1:])
        wrong += [(13, 0, 1, 1, 0, False), (0, 10, 1, 1, 0, False), (5, 0, 1, 2, 0, True), (0, 2, 1, 2, 0, True),
                  (0, 0, 1, 3, 0, False), (0, 0, 4, 1, 0, False), (0, 0, 5, 1, 0, False), (0, 0, 1, 1, 0, 0),
                  (0, 0, 1, 1, 0, 1), (True, 0, 1, 1, 0, False), (0, 0, True, 1, 0, False)]
        for thing in wrong:
            for call, behind in ((stands, ()), (cut, ()), (painted, (None,))):
                self.assert_refused(NoPlace, {"place": thing}, call, picture, thing, *behind)
        for place in ((12, 9, 1, 1, 3, True), (4, 1, 1, 2, 0, False), (4, 1, 3, 1, 2, True), (0, 0, 2, 1, 1, False)):
            self.assertIs(stands(picture, place), False)
            self.assertEqual(cut(picture, place), blank(SIDES[place[2]], SIDES[place[2]]))

    def test_no_grid_to_paint(self):
        for size in (1, 2):
            grid = drawing.symbol_of(size, 0, 0, [0] * drawing.data_count(size, 0))
            for thing, row, column in no_grids(grid):
                told = {"row": row, "column": column}
                self.assert_refused(NoGrid, told, painted, blank(30, 30), (1, 2, size, 2, 1, True), thing)
        self.assert_refused(NoGrid, {"row": -1, "column": -1}, painted, blank(30, 30), (1, 2, 2, 2, 1, True), SEVEN)
