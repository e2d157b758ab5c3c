"""Trials: with statements that undo what was done in them where they end with an exception."""

import unittest

from support import FEW, HALL, LAND
from toldcounts.desks import Desk
from toldcounts.errors import NothingToUndo, UnknownName
from toldcounts.shelves import Shelf
from toldcounts.trials import Trial


class Refused(Exception):
    """An exception that no other code raises."""


def desk_of_two():
    desk = Desk(HALL)
    desk.tell(("row", "all"), (4, 5))
    desk.tell(("cell", 0, 0), (1, 2))
    return desk


def shelf_of_two():
    shelf = Shelf()
    shelf.put("land", LAND)
    shelf.wish("land", ("fits",))
    return shelf


def more_at_desk(desk):
    desk.tell(desk.now.tolds[0], desk.now.stretch(desk.now.tolds[0]))


def more_on_shelf(shelf):
    shelf.put("few", FEW)


OWNERS = ((desk_of_two, more_at_desk), (shelf_of_two, more_on_shelf))


def state(owner):
    if isinstance(owner, Desk):
        return owner.now, owner.tale, len(owner)
    return owner.names, owner.wishes, owner.log, len(owner), [owner.thing(name) for name in owner.names]


def undone_to_the_end(owner):
    """All states that undoing leads to, the last one being that of a fresh owner."""
    found = [state(owner)]
    while True:
        try:
            owner.undo()
        except NothingToUndo:
            return found
        found.append(state(owner))


class Ends(unittest.TestCase):
    def test_a_block_that_ends(self):
        for made, more in OWNERS:
            owner, right = made(), made()
            more(right)
            with owner.trial() as held:
                self.assertIs(held, owner)
                self.assertIs(more(held), None)
            self.assertEqual(undone_to_the_end(owner), undone_to_the_end(right))

    def test_a_block_that_ends_with_an_exception(self):
        for made, more in OWNERS:
            for error in (Refused("why"), KeyError("k"), UnknownName("x"), ZeroDivisionError(), KeyboardInterrupt(),
                          SystemExit(3), GeneratorExit(), StopIteration()):
                owner = made()
                with self.assertRaises(error.__class__) as caught:
                    with owner.trial():
                        more(owner)
                        more(owner)
                        raise error
                self.assertIs(caught.exception, error)
                self.assertEqual(undone_to_the_end(owner), undone_to_the_end(made()))

    def test_more_is_taken_back_than_was_done(self):
        for made, more in OWNERS:
            owner = made()
            with self.assertRaises(Refused):
                with owner.trial():
                    more(owner)
                    for _ in range(3):
                        owner.undo()
                    more(owner)
                    raise Refused
            self.assertEqual(undone_to_the_end(owner), undone_to_the_end(made()))
            owner = made()
            with self.assertRaises(NothingToUndo):
                with owner.trial():
                    while True:
                        owner.undo()
            self.assertEqual(undone_to_the_end(owner), undone_to_the_end(made()))
            with owner.trial():
                pass
            owner = made()
            with owner.trial():
                owner.undo()
                owner.undo()
            self.assertEqual(len(undone_to_the_end(owner)), 1)

    def test_return_and_break(self):
        for made, more in OWNERS:
            owner, right = made(), made()
            more(right)

            def leave():
                with owner.trial():
                    more(owner)
                    return 7

            self.assertEqual(leave(), 7)
            for _ in range(3):
                with owner.trial():
                    more(owner)
                    break
            more(right)
            self.assertEqual(undone_to_the_end(owner), undone_to_the_end(right))

    def test_an_error_that_is_caught_in_the_block(self):
        for made, more in OWNERS:
            owner, right = made(), made()
            more(right)
            with owner.trial():
                more(owner)
                try:
                    raise Refused
                except Refused:
                    pass
            self.assertEqual(state(owner), state(right))


class Nested(unittest.TestCase):
    def test_trials_within_trials(self):
        for made, more in OWNERS:
            owner, right = made(), made()
            more(right)
            more(right)
            with owner.trial():
                more(owner)
                with self.assertRaises(Refused):
                    with owner.trial():
                        owner.undo()
                        owner.undo()
                        raise Refused
                more(owner)
            self.assertEqual(undone_to_the_end(owner), undone_to_the_end(right))

    def test_the_outer_one_fails(self):
        for made, more in OWNERS:
            owner = made()
            with self.assertRaises(Refused):
                with owner.trial():
                    more(owner)
                    with owner.trial():
                        more(owner)
                    raise Refused
            self.assertEqual(undone_to_the_end(owner), undone_to_the_end(made()))

    def test_both_fail(self):
        for made, more in OWNERS:
            owner = made()
            with self.assertRaises(Refused):
                with owner.trial():
                    more(owner)
                    with owner.trial():
                        more(owner)
                        raise Refused
            self.assertEqual(undone_to_the_end(owner), undone_to_the_end(made()))

    def test_tried_in_a_trial(self):
        for made, more in OWNERS:
            owner, right = made(), made()
            more(right)

            def fail(held):
                more(held)
                raise Refused

            with owner.trial() as held:
                self.assertRaises(Refused, held.tried, fail)
                self.assertIs(held.tried(more), None)
            self.assertEqual(undone_to_the_end(owner), undone_to_the_end(right))


class OneObject(unittest.TestCase):
    def test_several_statements(self):
        for made, more in OWNERS:
            owner, right = made(), made()
            trial = owner.trial()
            more(owner)
            more(right)
            for fails in (True, False, True, True, False):
                try:
                    with trial as held:
                        self.assertIs(held, owner)
                        more(owner)
                        if fails:
                            raise Refused
                    more(right)
                except Refused:
                    self.assertTrue(fails)
                self.assertEqual(state(owner), state(right))
            self.assertEqual(undone_to_the_end(owner), undone_to_the_end(right))

    def test_within_one_another(self):
        for made, more in OWNERS:
            owner, right = made(), made()
            trial = Trial(owner=owner)
            with trial:
                more(owner)
                more(right)
                with self.assertRaises(Refused):
                    with trial:
                        more(owner)
                        with trial:
                            more(owner)
                        raise Refused
                self.assertEqual(state(owner), state(right))
                with trial as held, trial as again:
                    self.assertIs(held, again)
                    more(owner)
                    more(right)
            self.assertEqual(undone_to_the_end(owner), undone_to_the_end(right))

    def test_the_outer_one_of_one_object_fails(self):
        for made, more in OWNERS:
            owner = made()
            trial = owner.trial()
            for _ in range(2):
                with self.assertRaises(Refused):
                    with trial:
                        more(owner)
                        with trial:
                            more(owner)
                        with trial:
                            owner.undo()
                            owner.undo()
                            owner.undo()
                        raise Refused
                self.assertEqual(state(owner), state(made()))
            self.assertEqual(undone_to_the_end(owner), undone_to_the_end(made()))

    def test_two_owners(self):
        desk, shelf = desk_of_two(), shelf_of_two()
        with self.assertRaises(Refused):
            with desk.trial(), shelf.trial():
                more_at_desk(desk)
                with self.assertRaises(Refused):
                    with shelf.trial():
                        more_on_shelf(shelf)
                        raise Refused
                more_on_shelf(shelf)
                raise Refused
        self.assertEqual((state(desk), state(shelf)), (state(desk_of_two()), state(shelf_of_two())))


if __name__ == "__main__":
    unittest.main()
