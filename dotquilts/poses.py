"""Poses: turning and mirroring grids, and telling from the border how a grid lies."""

from dotquilts.checks import is_number, is_number_to
from dotquilts.errors import NoNumber, NoPose
from dotquilts.grids import bordered, need_any_grid
from dotquilts.sizes import SIDES, border_dots, need_size

TURNS = 4
STRAIGHT = (0, False)


def is_pose(thing):
    """Whether a value is a pose."""
    if not isinstance(thing, tuple) or len(thing) != 2:
        return False
    return is_number_to(thing[0], 0, TURNS - 1) and isinstance(thing[1], bool)


def need_pose(pose):
    """Refuse what is no pose."""
    if not is_pose(pose):
        raise NoPose(pose)


def all_poses():
    """The ascending list of all poses."""
    return [(turn, flip) for turn in range(TURNS) for flip in (False, True)]


def grid_turned(grid, times):
    """The grid, of lists, turned by so many quarters to the right."""
    found = [list(dots) for dots in grid]
    for _ in range(times % TURNS):
        upward = found[::-1]
        found = [list(column) for column in zip(*upward)]
    return found


def grid_mirrored(grid):
    """The grid, of lists, with left and right exchanged."""
    return [list(dots[::-1]) for dots in grid]


def grid_posed(grid, pose):
    """The grid, of lists, in a pose."""
    turn, flip = pose
    return grid_turned(grid_mirrored(grid) if flip else grid, turn)


def grid_unposed(grid, pose):
    """The grid, of lists, of which this one is that in the pose."""
    turn, flip = pose
    found = grid_turned(grid, -turn)
    return grid_mirrored(found) if flip else found


def turned(grid, times):
    """The grid, of lists, turned by so many quarters to the right."""
    need_any_grid(grid)
    if not is_number(times):
        raise NoNumber("times")
    return grid_turned(grid, times)


def mirrored(grid):
    """The grid, of lists, with left and right exchanged."""
    need_any_grid(grid)
    return grid_mirrored(grid)


def posed(grid, pose):
    """The grid, of lists, in a pose: first mirrored, then turned."""
    need_any_grid(grid)
    need_pose(pose)
    return grid_posed(grid, pose)


def unposed(grid, pose):
    """The grid, of lists, of which this one is that in the pose."""
    need_any_grid(grid)
    need_pose(pose)
    return grid_unposed(grid, pose)


def faults_of(size, grid):
    """The ascending list of the border dots that are known and not as the border has them."""
    right = bordered(size)
    dots = border_dots(SIDES[size - 1] - 1)
    return [(row, column) for row, column in dots if grid[row][column] not in (None, right[row][column])]


def faults_in_poses(size, grid):
    """For each pose, ascending, the number of border faults."""
    return [len(faults_of(size, grid_unposed(grid, pose))) for pose in all_poses()]


def border_faults(grid, pose):
    """The ascending list of the border dots of the straight grid that are known and not as they should be."""
    size = need_any_grid(grid)
    need_pose(pose)
    return faults_of(size, grid_unposed(grid, pose))


def poses(grid, *, most=0):
    """The ascending list of the poses with at most so many border faults."""
    size = need_any_grid(grid)
    if not is_number(most) or most < 0:
        raise NoNumber("most")
    return [pose for pose, many in zip(all_poses(), faults_in_poses(size, grid)) if many <= most]


def straight(grid):
    """The tuple of the pose with the fewest border faults and the straight grid; None if several have as few."""
    size = need_any_grid(grid)
    counts = faults_in_poses(size, grid)
    if counts.count(min(counts)) > 1:
        return None
    pose = all_poses()[counts.index(min(counts))]
    return pose, grid_unposed(grid, pose)


def pose_distance(size):
    """The least number of border dots at which the border of a size is unlike itself in another pose."""
    need_size(size)
    right = bordered(size)
    return min([len(faults_of(size, grid_posed(right, pose))) for pose in all_poses() if pose != STRAIGHT])
