"""Points 35 and 36: poses, and what the border tells of them."""

import random
import unittest

from dotquilts.errors import NoGrid, NoNumber, NoPose, NoSize
from dotquilts.poses import border_faults, mirrored, pose_distance, posed, poses, straight, turned, unposed
from dotquilts.symbols import read, symbol
from tests import drawing, walking
from tests.asking import GREAT, Asking, no_grids, numbers_beyond, odd_values
from tests.drawing import POSES
from tests.walking import SIDES, SIZES

NO_POSES = odd_values() + [
    0, 1, GREAT, [0, False], [1, True], (0,), (0, False, 0), (0, 0), (0, 1), (1, 1), (1, 0), (True, True),
    (False, False), (True, False), (4, False), (-1, False), (-1, True), (GREAT, True), (None, False), (0, None),
    ("0", False), (0, "False"), ([0], False), (0, [False]), (False, 0), ((0, False),), "0F",
]


def any_grid(size, dice, shades=(0, 1, None)):
    return [[dice.choice(shades) for _ in range(SIDES[size])] for _ in range(SIDES[size])]


def as_tuples(grid):
    return tuple(tuple(dots) for dots in grid)


def bordered(size, dice):
    """A grid with the border and anything within it."""
    grid = any_grid(size, dice)
    for (row, column), shade in walking.border(size).items():
        grid[row][column] = shade
    return grid


def faults(grid):
    return [len(drawing.border_faults(grid, pose)) for pose in POSES]


class Turned(Asking):

    def test_dot_by_dot(self):
        dice = random.Random(1)
        for size, many in SIDES.items():
            grid = any_grid(size, dice)
            got = turned(grid, 1)
            flat = mirrored(grid)
            for row in range(many):
                for column in range(many):
                    # To the right: what was at the left of a row is at the top of a column.
                    self.assertIs(got[column][many - 1 - row], grid[row][column])
                    self.assertIs(flat[row][many - 1 - column], grid[row][column])
            self.assert_same(got, drawing.posed(grid, (1, False)))
            self.assert_same(flat, drawing.posed(grid, (0, True)))
            self.assert_same(mirrored(flat), grid)

    def test_all_numbers_of_quarters(self):
        dice = random.Random(2)
        for size in SIZES:
            grid = any_grid(size, dice)
            for times in list(range(-9, 10)) + [GREAT, -GREAT, GREAT + 3, -GREAT - 3, 2 ** 64 + 2]:
                wanted = drawing.posed(grid, (times % 4, False))
                self.assert_same(turned(grid, times), wanted)
                self.assert_same(turned(as_tuples(grid), times), wanted)

    def test_written_out(self):
        rows = [[0] * 8 for _ in range(8)]
        rows[0][1] = 1
        self.assertEqual([dots.index(1) if 1 in dots else -1 for dots in turned(rows, 1)], [-1, 7] + [-1] * 6)
        self.assertEqual([dots.index(1) if 1 in dots else -1 for dots in turned(rows, -1)], [-1] * 6 + [0, -1])
        self.assertEqual(mirrored(rows)[0], [0, 0, 0, 0, 0, 0, 1, 0])

    def test_poses_there_and_back(self):
        dice = random.Random(3)
        for size in SIZES:
            grid = any_grid(size, dice)
            for pose in POSES:
                got = posed(grid, pose)
                self.assert_same(got, drawing.posed(grid, pose))
                self.assert_same(posed(as_tuples(grid), pose), got)
                self.assert_same(unposed(got, pose), grid)
                self.assert_same(unposed(grid, pose), drawing.unposed(grid, pose))
                self.assert_same(posed(unposed(grid, pose), pose), grid)
                self.assertEqual(posed(grid, pose), turned(mirrored(grid) if pose[1] else grid, pose[0]))
            self.assertEqual(len({as_tuples(posed(grid, pose)) for pose in POSES}), 8)

    def test_arguments_by_name_and_new_answers(self):
        grid = any_grid(1, random.Random(4))
        kept = [list(dots) for dots in grid]
        self.assertEqual(turned(times=2, grid=grid), turned(grid, 2))
        self.assertEqual(mirrored(grid=grid), mirrored(grid))
        self.assertEqual(posed(pose=(1, True), grid=grid), posed(grid, (1, True)))
        self.assertEqual(unposed(pose=(1, True), grid=grid), unposed(grid, (1, True)))
        for times in (0, 1, 4):
            self.assert_asked_anew(turned, grid, times)
        self.assert_asked_anew(mirrored, grid)
        for pose in ((0, False), (0, True), (3, True)):
            self.assert_asked_anew(posed, grid, pose)
            self.assert_asked_anew(unposed, grid, pose)
            self.assert_asked_anew(border_faults, grid, pose)
        self.assertEqual(grid, kept)
        grid[0][1] = 1 - (grid[0][1] or 0)
        self.assertEqual(turned(grid, 0), grid)
        self.assertNotEqual(turned(grid, 0), kept)


class Border(Asking):

    def test_faults_in_all_poses(self):
        dice = random.Random(5)
        for size in SIZES:
            for shades in ((0, 1), (0, 1, None), (None,), (0,), (1,)):
                grid = any_grid(size, dice, shades)
                for pose in POSES:
                    wanted = drawing.border_faults(grid, pose)
                    self.assert_same(border_faults(grid, pose), wanted)
                    self.assert_same(border_faults(as_tuples(grid), pose), wanted)

    def test_faults_of_a_posed_border(self):
        dice = random.Random(6)
        for size in SIZES:
            edge = walking.border(size)
            for pose in POSES:
                lost = dice.sample(sorted(edge), 3)
                lies = [dot for dot in dice.sample(sorted(edge), 4) if dot not in lost]
                grid = bordered(size, dice)
                for row, column in lost:
                    grid[row][column] = None
                for row, column in lies:
                    grid[row][column] = 1 - edge[(row, column)]
                self.assert_same(border_faults(drawing.posed(grid, pose), pose), sorted(lies))

    def test_poses_with_few_faults(self):
        dice = random.Random(7)
        for size in SIZES:
            for grid in [bordered(size, dice) for _ in range(4)] + [any_grid(size, dice) for _ in range(4)]:
                counts = faults(grid)
                for most in sorted(set(counts + [0, 1, 8, max(counts) + 1, max(min(counts) - 1, 0), GREAT])):
                    wanted = [pose for pose, many in zip(POSES, counts) if many <= most]
                    self.assert_same(poses(grid, most=most), wanted)
                self.assert_same(poses(grid), [pose for pose, many in zip(POSES, counts) if many == 0])
            lost = [[None] * SIDES[size]] * SIDES[size]
            self.assert_same(poses(lost), POSES)

    def test_straight(self):
        dice = random.Random(8)
        told = 0
        for size in SIZES:
            for _ in range(12):
                grid = any_grid(size, dice, (0, 1, None))
                counts = faults(grid)
                if counts.count(min(counts)) > 1:
                    self.assertIsNone(straight(grid))
                    continue
                told += 1
                pose = POSES[counts.index(min(counts))]
                self.assert_same(straight(grid), (pose, drawing.unposed(grid, pose)))
            self.assertIsNone(straight([[None] * SIDES[size]] * SIDES[size]))
        self.assertGreater(told, 20)

    def test_several_poses_with_as_few(self):
        for size in SIZES:
            for shade in (0, 1):
                grid = [[shade] * SIDES[size] for _ in range(SIDES[size])]
                self.assertIsNone(straight(grid))
                grid[0][0] = 1 - shade
                counts = faults(grid)
                self.assertGreater(counts.count(min(counts)), 1)
                self.assertIsNone(straight(grid))

    def test_distances(self):
        for size in SIZES:
            edge = walking.border(size)
            grid = [[edge.get((row, column)) for column in range(SIDES[size])] for row in range(SIDES[size])]
            counts = [len(drawing.border_faults(drawing.posed(grid, pose), (0, False))) for pose in POSES[1:]]
            self.assert_same(pose_distance(size), min(counts))
            self.assertGreater(min(counts), 0)
        self.assertEqual(pose_distance(size=1), pose_distance(1))

    def test_less_than_half_of_the_distance_may_lie(self):
        dice = random.Random(9)
        for size in SIZES:
            edge = sorted(walking.border(size))
            most = (pose_distance(size) - 1) // 2
            for pose in POSES:
                for lies in (0, 1, most, most):
                    grid = symbol("", size=size, level=1, mask=dice.randrange(8))
                    for row, column in dice.sample(edge, lies):
                        grid[row][column] ^= 1
                    here = posed(grid, pose)
                    self.assert_same(straight(here), (pose, grid))
                    self.assertEqual(read(straight(here)[1])[0], "")
                    self.assertIn(pose, poses(here, most=lies))

    def test_examples_and_arguments_by_name(self):
        grid = symbol("7", size=1, level=0, mask=0)
        here = turned(grid, 1)
        self.assertNotEqual(border_faults(here, (0, False)), [])
        self.assert_same(poses(here), [(1, False)])
        self.assert_same(poses(most=0, grid=here), [(1, False)])
        self.assert_same(border_faults(pose=(1, False), grid=here), [])
        self.assert_same(straight(grid=here), ((1, False), grid))

    def test_answers_are_new_and_lists_asked_anew(self):
        grid = bordered(2, random.Random(10))
        self.assert_asked_anew(straight, grid)
        self.assert_asked_anew(poses, grid)
        self.assertEqual(border_faults(grid, (0, False)), [])
        grid[4][0] = 0
        self.assertEqual(border_faults(grid, (0, False)), [(4, 0)])
        self.assertEqual(poses(grid), [])


class Refusals(Asking):

    def test_no_grid(self):
        dice = random.Random(11)
        for size in SIZES:
            for thing, row, column in no_grids(any_grid(size, dice)):
                told = {"row": row, "column": column}
                for call in (mirrored, straight, poses):
                    self.assert_refused(NoGrid, told, call, thing)
                self.assert_refused(NoGrid, told, poses, thing, most=None)
                self.assert_refused(NoGrid, told, turned, thing, None)
                for call in (posed, unposed, border_faults):
                    self.assert_refused(NoGrid, told, call, thing, None)
        for many in (0, 1, 7, 9, 10, 14, 25):
            for call in (mirrored, straight, poses):
                self.assert_refused(NoGrid, {"row": -1, "column": -1}, call, [[0] * many] * many)
        self.assert_refused(NoGrid, {"row": 0, "column": -1}, mirrored, [[0] * 8] * 12)

    def test_no_pose(self):
        grid = any_grid(1, random.Random(12))
        for pose in NO_POSES:
            for call in (posed, unposed, border_faults):
                self.assert_refused(NoPose, {"pose": pose}, call, grid, pose)
                self.assert_refused(NoPose, {"pose": pose}, call, pose=pose, grid=grid)

    def test_no_numbers(self):
        grid = any_grid(2, random.Random(13))
        for thing in odd_values():
            self.assert_refused(NoNumber, {"part": "times"}, turned, grid, thing)
            self.assert_refused(NoNumber, {"part": "most"}, poses, grid, most=thing)
        for thing in (-1, -2, -GREAT):
            self.assert_refused(NoNumber, {"part": "most"}, poses, grid, most=thing)
        with self.assertRaises(TypeError):
            poses(grid, 0)

    def test_no_size(self):
        for size in odd_values() + numbers_beyond(1, 5):
            self.assert_refused(NoSize, {"size": size}, pose_distance, size)


if __name__ == "__main__":
    unittest.main()
