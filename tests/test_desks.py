"""Points 75 to 77: desks at which wishes are made."""

import random

from dotquilts.desks import Desk
from dotquilts.errors import NoChange, NoLevel, NoMask, NoSize
from dotquilts.pictures import drawing, sure_dots, ways_to_draw
from tests import walking
from tests.asking import Asking, lists_of, no_dots, numbers_beyond, odd_values
from tests.test_stains import NO_LEVELS, NO_SIZES
from tests.walking import LEVELS, PATHS, SIDES, SIZES

NO_MASKS = odd_values() + numbers_beyond(0, 7)
PLACES = [(size, level) for size in SIZES for level in LEVELS]


class Desks(Asking):

    def check(self, desk, size, level, mask, wish):
        self.assert_same(desk.mask_now(), mask)
        self.assert_same(desk.wish_now(), wish)
        self.assertEqual(list(desk.wish_now()), sorted(wish))

    def check_answers(self, desk, size, level, mask, wish):
        self.assert_same(desk.answer_now(), drawing(size, level, mask, wish))
        self.assert_same(desk.sure_now(), sure_dots(size, level, mask, wish))
        self.assert_same(desk.ways_now(), ways_to_draw(size, level, mask, wish))

    def change(self, desk, size, now, dice):
        """One drawn change, also such as leave all as it was; the tuple of the mask and the wish behind it."""
        mask, wish = now
        kind = dice.choice(("put", "put", "drop", "mask"))
        if kind == "drop" and wish:
            dot = dice.choice(sorted(wish))
            self.assertIsNone(desk.drop(dot))
            return mask, {other: wish[other] for other in wish if other != dot}
        if kind == "mask":
            other = dice.choice((mask, dice.randrange(8)))
            self.assertIsNone(desk.change_mask(other))
            return other, wish
        dot = dice.choice(sorted(wish)) if wish and dice.random() < 0.4 else dice.choice(walking.all_dots(size))
        value = dice.randrange(2)
        self.assertIsNone(desk.put(dot, value))
        return mask, {**wish, dot: value}

    def test_drawn_changes_undo_and_redo(self):
        dice = random.Random(1)
        for size, level in PLACES * 2:
            desk = Desk(size, level, 5)
            states, at = [(5, {})], 0
            for step in range(40):
                choice = dice.random()
                if choice < 0.5:
                    states = states[:at + 1] + [self.change(desk, size, states[at], dice)]
                    at += 1
                elif choice < 0.8:
                    self.assertIs(desk.undo(), at > 0)
                    at = max(at - 1, 0)
                else:
                    self.assertIs(desk.redo(), at + 1 < len(states))
                    at = min(at + 1, len(states) - 1)
                self.check(desk, size, level, *states[at])
                if step % 10 == 0:
                    self.check_answers(desk, size, level, *states[at])
            while at:
                self.assertIs(desk.undo(), True)
                at -= 1
                self.check(desk, size, level, *states[at])
            self.assertIs(desk.undo(), False)
            for state in states[1:]:
                self.assertIs(desk.redo(), True)
                self.check(desk, size, level, *state)
            self.assertIs(desk.redo(), False)

    def test_changes_that_leave_all_as_it_was(self):
        desk = Desk(1, 0, 3)
        desk.change_mask(3)
        desk.put((2, 5), 1)
        desk.put((2, 5), 1)
        self.assertEqual([desk.undo() for _ in range(4)], [True, True, True, False])
        self.assertEqual([desk.redo() for _ in range(4)], [True, True, True, False])
        desk.undo()
        desk.change_mask(3)
        # What was taken back cannot be done again behind any other change.
        self.assertIs(desk.redo(), False)
        self.assertEqual(desk.wish_now(), {(2, 5): 1})

    def test_at_first(self):
        for size, level in PLACES:
            desk = Desk(size=size, level=level, mask=6)
            self.check(desk, size, level, 6, {})
            self.check_answers(desk, size, level, 6, {})
            self.assertIs(desk.undo(), False)
            self.assertIs(desk.redo(), False)

    def test_arguments_by_name(self):
        desk = Desk(2, 1, 0)
        desk.put(dot=(3, 3), value=1)
        desk.put(value=0, dot=(4, 4))
        desk.change_mask(mask=2)
        desk.drop(dot=(3, 3))
        self.check(desk, 2, 1, 2, {(4, 4): 0})

    def test_wishes_that_clash(self):
        desk = Desk(1, 3, 0)
        desk.put((0, 1), 1)
        self.assert_same(desk.answer_now(), ("clash", [(0, 1)], []))
        self.assertIsNone(desk.sure_now())
        self.assert_same(desk.ways_now(), 0)
        desk.put((0, 1), 0)
        self.assert_same(desk.ways_now(), 16)

    def test_desks_do_not_change_one_another(self):
        one, other = Desk(1, 0, 0), Desk(1, 0, 0)
        one.put((2, 5), 1)
        one.change_mask(4)
        self.check(other, 1, 0, 0, {})
        self.assertIs(other.undo(), False)
        other.put((3, 3), 0)
        self.check(one, 1, 0, 4, {(2, 5): 1})

    def test_answers_are_new(self):
        desk = Desk(1, 0, 0)
        for dot in PATHS[1][:9]:
            desk.put(dot, 1)
        for call in (desk.wish_now, desk.answer_now, desk.sure_now):
            first = call()
            kept = repr(first)
            within = lists_of(first)
            self.assertFalse(any(one is other for one in within for other in lists_of(call())))
            for one in within:
                one.clear()
            self.assertEqual(repr(call()), kept)
        wish = desk.wish_now()
        wish[0, 0] = 0
        self.assertNotIn((0, 0), desk.wish_now())
        desk.undo()
        self.assertEqual(len(desk.wish_now()), 8)

    def test_facts(self):
        dice = random.Random(2)
        for size, level in PLACES:
            desk = Desk(size, level, dice.randrange(8))
            for _ in range(12):
                before, sure = desk.ways_now(), desk.sure_now()
                dot, value = dice.choice(PATHS[size]), dice.randrange(2)
                fresh = dot not in desk.wish_now()
                desk.put(dot, value)
                after = desk.ways_now()
                if fresh:
                    self.assertIn(after, (before, before // 2, 0))
                    if sure is not None and dot in sure:
                        self.assertEqual(after, before if sure[dot] == value else 0)
                if after == 0:
                    desk.undo()

    def test_no_desk(self):
        for size in NO_SIZES:
            self.refuse_desk(NoSize, "size", size, (size, None, None))
        for level in NO_LEVELS:
            self.refuse_desk(NoLevel, "level", level, (2, level, None))
        for mask in NO_MASKS:
            self.refuse_desk(NoMask, "mask", mask, (2, 3, mask))

    def refuse_desk(self, error, field, thing, told):
        for call in (lambda: Desk(*told), lambda: Desk(mask=told[2], level=told[1], size=told[0])):
            with self.assertRaises(error) as caught:
                call()
            self.assertIs(type(caught.exception), error)
            self.assertIs(getattr(caught.exception, field), thing)

    def refuse(self, desk, word, call):
        """It is refused, and nothing changes, for undo and redo neither."""
        before = (desk.mask_now(), desk.wish_now())
        with self.assertRaises(NoChange) as caught:
            call()
        self.assertIs(type(caught.exception), NoChange)
        self.assert_same(caught.exception.word, word)
        self.assertEqual((desk.mask_now(), desk.wish_now()), before)

    def test_no_change(self):
        desk = Desk(1, 0, 0)
        desk.put((3, 3), 1)
        desk.put((3, 3), 0)
        desk.put((0, 1), 1)
        desk.undo()
        for thing in no_dots(8) + [(SIDES[1], 0)]:
            self.refuse(desk, "put", lambda: desk.put(thing, 1))
            self.refuse(desk, "put", lambda: desk.put(dot=thing, value=None))
            self.refuse(desk, "drop", lambda: desk.drop(thing))
            self.refuse(desk, "drop", lambda: desk.drop(dot=thing))
        for thing in odd_values() + numbers_beyond(0, 1):
            self.refuse(desk, "put", lambda: desk.put((3, 3), thing))
            self.refuse(desk, "put", lambda: desk.put(value=thing, dot=(5, 5)))
        for dot in ((0, 0), (0, 1), (5, 5)):
            self.refuse(desk, "drop", lambda: desk.drop(dot))
        for thing in NO_MASKS:
            self.refuse(desk, "change_mask", lambda: desk.change_mask(thing))
            self.refuse(desk, "change_mask", lambda: desk.change_mask(mask=thing))
        # What was taken back ahead of all this can still be done again, and what was done taken back.
        self.assertIs(desk.redo(), True)
        self.assertEqual(desk.wish_now(), {(0, 1): 1, (3, 3): 0})
        self.assertEqual([desk.undo() for _ in range(4)], [True, True, True, False])
        self.assertEqual(desk.wish_now(), {})

    def test_methods_are_those_of_the_class(self):
        for name in ("put", "drop", "change_mask", "mask_now", "wish_now", "answer_now", "sure_now", "ways_now", "undo",
                     "redo"):
            self.assertIn(name, vars(Desk))
