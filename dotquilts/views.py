"""Grids as texts, and back."""

from dotquilts.errors import NoPicture
from dotquilts.grids import need_grid
from dotquilts.sizes import SIDES, need_size

SHADES = {"#": 1, ".": 0, "?": None}
SIGN_OF = {1: "#", 0: ".", None: "?"}


def picture_of(size, grid):
    """The text of a grid: a line for each row, a sign for each dot."""
    need_size(size)
    need_grid(size, grid)
    return "".join(["".join([SIGN_OF[dot] for dot in dots]) + "\n" for dots in grid])


def need_picture_text(many, text):
    """Refuse what is not so many lines of so many signs."""
    if not isinstance(text, str):
        raise NoPicture(-1)
    for line in range(many):
        signs = text[line * (many + 1):(line + 1) * (many + 1)]
        if len(signs) <= many or signs[many] != "\n" or [sign for sign in signs[:many] if sign not in SHADES]:
            raise NoPicture(line)
    if len(text) > many * (many + 1):
        raise NoPicture(many)


def read_picture(size, text):
    """The grid, of lists, whose text it is."""
    need_size(size)
    many = SIDES[size - 1]
    need_picture_text(many, text)
    return [[SHADES[sign] for sign in text[at:at + many]] for at in range(0, many * (many + 1), many + 1)]
