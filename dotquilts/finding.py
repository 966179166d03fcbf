"""Finding symbols in pictures, in all poses and scales, and painting them there."""

from dotquilts.bitrows import places_set
from dotquilts.checks import is_number, is_number_to, is_row
from dotquilts.errors import NoGrid, NoPlace
from dotquilts.grids import need_grid, need_plain_dots
from dotquilts.poses import (
    all_poses, dot_on_ring, grid_posed, grid_unposed, is_pose, ring_of_border, ring_of_grid, ring_posed,
)
from dotquilts.sizes import SIDES
from dotquilts.symbols import text_told

MOST_ROWS = 120


def need_picture(picture):
    """Refuse what is no list or tuple of rows, all with as many dots."""
    if not is_row(picture) or not 1 <= len(picture) <= MOST_ROWS:
        raise NoGrid(-1, -1)
    for row, dots in enumerate(picture):
        if not is_row(dots) or not 1 <= len(dots) <= MOST_ROWS or len(dots) != len(picture[0]):
            raise NoGrid(row, -1)
        need_plain_dots(row, dots)


def is_place(picture, thing):
    """Whether a value is a place of a picture."""
    if not isinstance(thing, tuple) or len(thing) != 6:
        return False
    row, column, size, scale, turn, flip = thing
    if not is_number_to(size, 1, len(SIDES)) or not is_pose((turn, flip)):
        return False
    if not is_number(scale) or scale < 1:
        return False
    many = SIDES[size - 1] * scale
    return is_number_to(row, 0, len(picture) - many) and is_number_to(column, 0, len(picture[0]) - many)


def need_place(picture, place):
    """Refuse what is no place of a picture."""
    if not is_place(picture, place):
        raise NoPlace(place)


def alike(dots):
    """What all of some dots are; None if they are not alike."""
    return dots[0] if dots.count(dots[0]) == len(dots) else None


def modules_in(lines, scale):
    """The values of a row of modules, of as many rows of dots as the scale tells."""
    first = lines[0]
    starts = range(0, len(first), scale)
    if not [line for line in lines if line != first]:
        return [alike(first[at:at + scale]) for at in starts]
    return [alike([dot for line in lines for dot in line[at:at + scale]]) for at in starts]


def modules_of(picture, row, column, many, scale):
    """The rows of the values of so many times so many modules, as they lie in a picture."""
    found = []
    for top in range(row, row + many * scale, scale):
        lines = [list(picture[at][column:column + many * scale]) for at in range(top, top + scale)]
        found.append(modules_in(lines, scale))
    return found


def grid_cut(picture, place):
    """The straight grid of a place."""
    row, column, size, scale, turn, flip = place
    return grid_unposed(modules_of(picture, row, column, SIDES[size - 1], scale), (turn, flip))


def is_light(dots):
    """Whether all of some dots are light."""
    return dots.count(0) == len(dots)


def is_margin_light(picture, row, column, many, scale):
    """Whether all dots around a square of so many dots, as far as scale dots, are light where there is a picture."""
    left, right = max(column - scale, 0), column + many + scale
    for at in range(max(row - scale, 0), min(row + many + scale, len(picture))):
        dots = picture[at]
        if row <= at < row + many:
            if not is_light(dots[left:column]) or not is_light(dots[column + many:right]):
                return False
        elif not is_light(dots[left:right]):
            return False
    return True


def stands(picture, place):
    """Whether a symbol stands at a place."""
    need_picture(picture)
    need_place(picture, place)
    row, column, size, scale, _, _ = place
    many = SIDES[size - 1]
    if not is_margin_light(picture, row, column, many * scale, scale):
        return False
    ring = ring_of_grid(grid_cut(picture, place))
    return None not in ring and "".join(map(str, ring)) == ring_of_border(many - 1)


class Shade:
    """The dots of one shade, each a bit of one large integer, row by row, the first dot being the lowest bit."""

    def __init__(self, columns, dots):
        self.columns = columns
        self.dots = dots
        self.lines = dots
        self.scale = 1

    def grow(self):
        """Make the squares one row and one column greater; there are lines of so many dots, each at its first one."""
        self.lines &= self.dots >> self.scale
        self.scale += 1

    def squares(self):
        """The first dots of all squares of this shade, among them such as begin in one row and go on in the next."""
        found = self.lines
        for row in range(1, self.scale):
            found &= self.lines >> row * self.columns
        return found


def shades_of(picture):
    """The tuple of the light and of the dark dots of a picture."""
    signs = "".join(["?" if dot is None else "1" if dot else "0" for dots in picture for dot in dots])[::-1]
    dark = signs.replace("?", "0")
    light = signs.replace("1", "?").replace("0", "1").replace("?", "0")
    return Shade(len(picture[0]), int(light, 2)), Shade(len(picture[0]), int(dark, 2))


def edges_of(size, columns):
    """The border dots of a size, in a picture with so many columns, and for each pose what they are, as a text.

    A dot is told by how many dots of the picture are between it and the first one. Those of all four edges follow
    one another by turns: if there is no symbol, one of the first ones shows it.
    """
    last = SIDES[size - 1] - 1
    order = [edge * last + step for step in range(last) for edge in range(4)]
    dots = [dot_on_ring(last, at) for at in order]
    right = ring_of_border(last)
    poses = []
    for pose in all_poses():
        ring = ring_posed(last, right, pose)
        poses.append((pose, "".join([ring[at] for at in order])))
    return [row * columns + column for row, column in dots], poses


def squares_with(shades, scale, steps, ring):
    """The list of the first dots of all squares that have a border at this scale, and of some beyond the right edge."""
    left = -1
    for step, sign in zip(steps, ring):
        left &= shades[int(sign)] >> step * scale
        if left == 0:
            break
    return places_set(left)


def places_at(picture, shades, size, scale, edges):
    """The list of the places at which symbols of a size stand at a scale."""
    columns = len(picture[0])
    many = SIDES[size - 1] * scale
    steps, poses = edges
    found = []
    for (turn, flip), ring in poses:
        for at in squares_with(shades, scale, steps, ring):
            row, column = divmod(at, columns)
            if column + many <= columns and is_margin_light(picture, row, column, many, scale):
                found.append((row, column, size, scale, turn, flip))
    return found


def all_places(picture):
    """The ascending list of all places at which symbols stand."""
    most = min(len(picture), len(picture[0]))
    sizes = [size for size, many in enumerate(SIDES, start=1) if many <= most]
    edges = [edges_of(size, len(picture[0])) for size in sizes]
    light, dark = shades_of(picture)
    found = []
    for scale in range(1, most // SIDES[0] + 1):
        shades = (light.squares(), dark.squares())
        for size, edge in zip(sizes, edges):
            if SIDES[size - 1] * scale <= most:
                found.extend(places_at(picture, shades, size, scale, edge))
        light.grow()
        dark.grow()
    return sorted(found)


def places(picture):
    """The ascending list of all places at which symbols stand."""
    need_picture(picture)
    return all_places(picture)


def read_all(picture):
    """The list of tuples of each place at which a symbol stands, ascending, and its text, None if it is refused."""
    need_picture(picture)
    return [(place, text_told(place[2], grid_cut(picture, place))) for place in all_places(picture)]


def cut(picture, place):
    """The straight grid of a place, whether a symbol stands there or not."""
    need_picture(picture)
    need_place(picture, place)
    return grid_cut(picture, place)


def painted(picture, place, grid):
    """The picture with a grid in its pose at a place, and with the dots around it light."""
    need_picture(picture)
    need_place(picture, place)
    row, column, size, scale, turn, flip = place
    need_grid(size, grid)
    many = SIDES[size - 1] * scale
    found = [list(dots) for dots in picture]
    left, right = max(column - scale, 0), min(column + many + scale, len(picture[0]))
    for at in range(max(row - scale, 0), min(row + many + scale, len(picture))):
        found[at][left:right] = [0] * (right - left)
    for step, modules in enumerate(grid_posed(grid, (turn, flip))):
        line = [dot for dot in modules for _ in range(scale)]
        for at in range(row + step * scale, row + step * scale + scale):
            found[at][column:column + many] = line
    return found
