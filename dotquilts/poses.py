"""Poses: turning and mirroring grids, and telling from the border how a grid lies."""

from dotquilts.bitrows import ones
from dotquilts.checks import is_number, is_number_to
from dotquilts.errors import NoNumber, NoPose
from dotquilts.grids import need_any_grid
from dotquilts.sizes import SIDES, need_size

TURNS = 4
STRAIGHT = (0, False)


def is_pose(thing):
    """Whether a value is a pose."""
    if not isinstance(thing, tuple) or len(thing) != 2:
        return False
    return is_number_to(thing[0], 0, TURNS - 1) and isinstance(thing[1], bool)


def need_pose(pose):
    """Refuse what is no pose."""
    if not is_pose(pose):
        raise NoPose(pose)


def all_poses():
    """The ascending list of all poses."""
    return [(turn, flip) for turn in range(TURNS) for flip in (False, True)]


def grid_turned(grid, times):
    """The grid, of lists, turned by so many quarters to the right."""
    found = [list(dots) for dots in grid]
    for _ in range(times % TURNS):
        upward = found[::-1]
        found = [list(column) for column in zip(*upward)]
    return found


def grid_mirrored(grid):
    """The grid, of lists, with left and right exchanged."""
    return [list(dots[::-1]) for dots in grid]


def grid_posed(grid, pose):
    """The grid, of lists, in a pose."""
    turn, flip = pose
    return grid_turned(grid_mirrored(grid) if flip else grid, turn)


def grid_unposed(grid, pose):
    """The grid, of lists, of which this one is that in the pose."""
    turn, flip = pose
    found = grid_turned(grid, -turn)
    return grid_mirrored(found) if flip else found


def turned(grid, times):
    """The grid, of lists, turned by so many quarters to the right."""
    need_any_grid(grid)
    if not is_number(times):
        raise NoNumber("times")
    return grid_turned(grid, times)


def mirrored(grid):
    """The grid, of lists, with left and right exchanged."""
    need_any_grid(grid)
    return grid_mirrored(grid)


def posed(grid, pose):
    """The grid, of lists, in a pose: first mirrored, then turned."""
    need_any_grid(grid)
    need_pose(pose)
    return grid_posed(grid, pose)


def unposed(grid, pose):
    """The grid, of lists, of which this one is that in the pose."""
    need_any_grid(grid)
    need_pose(pose)
    return grid_unposed(grid, pose)


def ring_of_border(last):
    """The border as a text of 0 and 1, clockwise from the upper left, in a symbol with `last` rows behind the first.

    Seen from the lower right, the right column is two dark dots and two light ones by turns.
    """
    return ("10" * last)[:last] + ("1100" * last)[last:0:-1] + "1" * (2 * last)


def ring_of_grid(grid):
    """The list of the border dots of a grid, clockwise from the upper left."""
    right = [dots[-1] for dots in grid[:-1]]
    left = [dots[0] for dots in grid[:0:-1]]
    return list(grid[0][:-1]) + right + list(grid[-1][:0:-1]) + left


def ring_mirrored(last, ring):
    """A ring, clockwise again, after left and right were exchanged."""
    return ring[last::-1] + ring[:last:-1]


def ring_turned(last, ring, times):
    """A ring turned by so many quarters to the right."""
    begin = -times % TURNS * last
    return ring[begin:] + ring[:begin]


def ring_posed(last, ring, pose):
    """A ring in a pose: first mirrored, then turned."""
    turn, flip = pose
    return ring_turned(last, ring_mirrored(last, ring) if flip else ring, turn)


def dot_on_ring(last, at):
    """The dot that stands at a place of a ring."""
    edge, step = divmod(at, last)
    return ((0, step), (step, last), (last, last - step), (last - step, 0))[edge]


def faults_in_poses(grid):
    """For each pose, ascending, the number of border faults."""
    last = len(grid) - 1
    ring = ring_of_grid(grid)
    dark = int("".join(["1" if dot else "0" for dot in ring]), 2)
    seen = int("".join(["0" if dot is None else "1" for dot in ring]), 2)
    right = ring_of_border(last)
    return [ones((int(ring_posed(last, right, pose), 2) ^ dark) & seen) for pose in all_poses()]


def border_faults(grid, pose):
    """The ascending list of the border dots of the straight grid that are known and not as they should be."""
    need_any_grid(grid)
    need_pose(pose)
    last = len(grid) - 1
    turn, flip = pose
    ring = ring_turned(last, ring_of_grid(grid), -turn)
    if flip:
        ring = ring_mirrored(last, ring)
    right = ring_of_border(last)
    wrong = [at for at, (dot, sign) in enumerate(zip(ring, right)) if dot is not None and dot != (sign == "1")]
    return sorted([dot_on_ring(last, at) for at in wrong])


def poses(grid, *, most=0):
    """The ascending list of the poses with at most so many border faults."""
    need_any_grid(grid)
    if not is_number(most) or most < 0:
        raise NoNumber("most")
    return [pose for pose, many in zip(all_poses(), faults_in_poses(grid)) if many <= most]


def straight(grid):
    """The tuple of the pose with the fewest border faults and the straight grid; None if several have as few."""
    need_any_grid(grid)
    counts = faults_in_poses(grid)
    if counts.count(min(counts)) > 1:
        return None
    pose = all_poses()[counts.index(min(counts))]
    return pose, grid_unposed(grid, pose)


def pose_distance(size):
    """The least number of border dots at which the border of a size is unlike itself in another pose."""
    need_size(size)
    last = SIDES[size - 1] - 1
    right = ring_of_border(last)
    return min([ones(int(right, 2) ^ int(ring_posed(last, right, pose), 2))
                for pose in all_poses() if pose != STRAIGHT])
