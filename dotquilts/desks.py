"""Desks: making a wish dot by dot, and taking changes back."""

from dotquilts.checks import is_bit, is_dot, is_number_to
from dotquilts.errors import NoChange
from dotquilts.formats import MASKS, need_mask
from dotquilts.pictures import drawing, sure_dots, ways_to_draw
from dotquilts.sizes import SIDES, need_level, need_size


class Desk:
    """A desk at which a wish is made, for symbols of a size and a level, under a mask that can be changed."""

    def __init__(self, size, level, mask):
        need_size(size)
        need_level(level)
        need_mask(mask)
        self.size = size
        self.level = level
        self.mask = mask
        self.wish = {}
        # What the mask and the wish were ahead of each change, and behind each one that was taken back.
        self.before = []
        self.behind = []

    def change(self, mask, wish):
        """Take another mask and another wish; what was taken back cannot be done again any more."""
        self.before.append((self.mask, self.wish))
        self.behind = []
        self.mask = mask
        self.wish = wish

    def put(self, dot, value):
        """Wish a value for a dot."""
        if not is_dot(dot, SIDES[self.size - 1]) or not is_bit(value):
            raise NoChange("put")
        wish = {other: self.wish[other] for other in self.wish}
        wish[dot] = value
        self.change(self.mask, wish)

    def drop(self, dot):
        """Take a dot out of the wish."""
        if not is_dot(dot, SIDES[self.size - 1]) or dot not in self.wish:
            raise NoChange("drop")
        self.change(self.mask, {other: self.wish[other] for other in self.wish if other != dot})

    def change_mask(self, mask):
        """Take another mask."""
        if not is_number_to(mask, 0, MASKS - 1):
            raise NoChange("change_mask")
        self.change(mask, self.wish)

    def mask_now(self):
        """The mask."""
        return self.mask

    def wish_now(self):
        """The wish, a dict, its dots ascending."""
        return {dot: self.wish[dot] for dot in sorted(self.wish)}

    def answer_now(self):
        """What drawing tells of the wish."""
        return drawing(self.size, self.level, self.mask, self.wish)

    def sure_now(self):
        """What sure_dots tells of the wish."""
        return sure_dots(self.size, self.level, self.mask, self.wish)

    def ways_now(self):
        """What ways_to_draw tells of the wish."""
        return ways_to_draw(self.size, self.level, self.mask, self.wish)

    def undo(self):
        """Take back the last change that was not taken back; whether there was one."""
        if not self.before:
            return False
        self.behind.append((self.mask, self.wish))
        self.mask, self.wish = self.before.pop()
        return True

    def redo(self):
        """Do again the last change that was taken back, if no other one was made since; whether there was one."""
        if not self.behind:
            return False
        self.before.append((self.mask, self.wish))
        self.mask, self.wish = self.behind.pop()
        return True
