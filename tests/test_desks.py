"""Desks: what is told to them, asked and taken back ([12], [14], [16])."""

import inspect
import random
import unittest

from support import CROWDED, GRID, HALL, LAND, STRANGE, all_fillings, crosses_around, ends, told_numbers
from support_polls import refused
from toldcounts.crossranges import sure_cells
from toldcounts.desks import Desk
from toldcounts.errors import InvalidStretch, InvalidTold, NoData, NotACross, NothingToUndo
from toldcounts.trials import Trial

NO_TOLDS = STRANGE + (("row", "x"), ("column", "all"), ("cell", 0, 2), ("cell", 2, 0), ("cell", 0), ("row",), ["row", "all"],
                      ("cell", False, 0), ("cell", 0, True), "row all", ("Row", "all"), ("row", "all", 0), ("cell", -1, 0),
                      ("row", ("all",)), ("cell", "0", "0"), ("cell", (0, 0)), (b"row", "all"))


def state(desk):
    return desk.now, desk.tale, len(desk)


class Telling(unittest.TestCase):
    def test_a_desk_at_first(self):
        desk = Desk(HALL)
        self.assertEqual(state(desk), (HALL, (), 0))
        self.assertIs(bool(desk), True)
        self.assertEqual(desk.sure(), ((1, 0),))
        self.assertEqual(Desk(cross=GRID).now, GRID)

    def test_what_is_told(self):
        desk = Desk(HALL)
        self.assertIs(desk.tell(("cell", 0, 0), (2, 2)), None)
        self.assertIs(desk.tell(stretch=(5, 6), what=("row", "all")), None)
        now = HALL.changed(("cell", 0, 0), (2, 2)).changed(("row", "all"), (5, 6))
        tale = ((("cell", 0, 0), (2, 2)), (("row", "all"), (5, 6)))
        self.assertEqual(state(desk), (now, tale, 2))
        desk.tell(("row", "all"), (5, 6))
        self.assertEqual(state(desk), (now, tale + tale[1:], 3))
        self.assertIs(desk.undo(), None)
        self.assertEqual(state(desk), (now, tale, 2))
        desk.undo()
        desk.tell(("column", "young"), (2, 2))
        self.assertEqual(desk.tale, (tale[0], (("column", "young"), (2, 2))))
        desk.undo()
        desk.undo()
        self.assertEqual(state(desk), (HALL, (), 0))
        refused(self, NothingToUndo, desk.undo)
        self.assertEqual(state(desk), (HALL, (), 0))

    def test_answers(self):
        chance, refusals = random.Random(371), 0
        for cross in crosses_around(372, 40, ((1, 2), (2, 1), (2, 2), (2, 2))):
            desk, told = Desk(cross), [cross]
            for _ in range(10):
                now = told[-1]
                what = chance.choice(now.tolds)
                low, high = now.stretch(what)
                stretch = tuple(sorted((chance.randint(low, high), chance.randint(low, high))))
                changed = now.changed(what, stretch)
                if not all_fillings(changed):
                    refused(self, NoData, desk.tell, what, stretch)
                    refusals += 1
                elif chance.random() < 0.3 and len(told) > 1:
                    desk.undo()
                    told.pop()
                else:
                    desk.tell(what, stretch)
                    told.append(changed)
                self.assertEqual((desk.now, len(desk)), (told[-1], len(told) - 1))
                self.check(desk, told[-1])
        self.assertGreater(refusals, 20)

    def check(self, desk, cross):
        numbers = told_numbers(cross, all_fillings(cross))
        for what in cross.tolds:
            self.assertEqual(desk.ends(what), ends(numbers[what]))
        self.assertEqual(desk.sure(), sure_cells(cross))

    def test_two_desks(self):
        one, other = Desk(HALL), Desk(HALL)
        self.assertFalse(one == other)
        self.assertTrue(one != other)
        self.assertTrue(one == one)
        for value in (HALL, HALL.text, None, 0):
            self.assertFalse(one == value)
        one.tell(("cell", 0, 0), (2, 2))
        self.assertEqual((len(one), len(other), other.now), (1, 0, HALL))

    def test_properties_can_not_be_set(self):
        desk = Desk(HALL)
        for name in ("now", "tale"):
            with self.assertRaises(AttributeError):
                setattr(desk, name, None)

    def test_parameters(self):
        for call, names in ((Desk, "cross"), (Desk(HALL).tell, "what stretch"), (Desk(HALL).ends, "what"),
                            (Desk(HALL).undo, ""), (Desk(HALL).sure, ""), (Desk(HALL).trial, ""), (Desk(HALL).tried, "action")):
            self.assertEqual(list(inspect.signature(call).parameters), names.split())
        self.assertEqual(Desk(HALL).ends(what=("row", "all")), (4, 6))
        for name in ("__len__", "tell", "undo", "sure", "ends", "trial", "tried", "now", "tale"):
            self.assertIn(name, vars(Desk))


class Wrong(unittest.TestCase):
    def test_crosses(self):
        for value in STRANGE + (LAND, HALL.text, (HALL,)):
            self.assertIs(refused(self, NotACross, Desk, value).given, value)
        self.assertEqual(vars(refused(self, NoData, Desk, CROWDED)), {})

    def test_names(self):
        desk = Desk(HALL)
        desk.tell(("cell", 0, 0), (1, 2))
        before = state(desk)
        for value in NO_TOLDS:
            self.assertIs(refused(self, InvalidTold, desk.tell, value, None).given, value)
            self.assertIs(refused(self, InvalidTold, desk.ends, value).given, value)
            self.assertEqual(state(desk), before)

    def test_stretches(self):
        desk = Desk(HALL)
        desk.tell(("row", "all"), (4, 5))
        before = state(desk)
        for value in STRANGE + ((3, 5), (4, 6), (6, 6), (3, 3), (5, 4), [4, 5], (4,), (4, 5, 5), (4, True), "4-5", 4, (0, 4000),
                                (4, 4001), (4, None)):
            self.assertIs(refused(self, InvalidStretch, desk.tell, ("row", "all"), value).given, value)
            self.assertEqual(state(desk), before)
        desk.undo()
        desk.tell(("row", "all"), (6, 6))
        self.assertEqual(desk.now.stretch(("row", "all")), (6, 6))

    def test_tellings_that_leave_no_filling(self):
        desk = Desk(GRID)
        before = state(desk)
        self.assertEqual(vars(refused(self, NoData, desk.tell, ("cell", 0, 1), (0, 1))), {})
        self.assertEqual(state(desk), before)
        desk.tell(("cell", 0, 1), (0, 2))
        before = state(desk)
        refused(self, NoData, desk.tell, ("cell", 0, 0), (0, 0))
        self.assertEqual(state(desk), before)
        self.assertEqual(len(desk.sure()), 4)


class Trying(unittest.TestCase):
    def test_trials(self):
        desk = Desk(HALL)
        self.assertIsInstance(desk.trial(), Trial)
        with desk.trial() as held:
            self.assertIs(held, desk)
            desk.tell(("cell", 0, 0), (2, 2))
        self.assertEqual(len(desk), 1)
        with self.assertRaises(NoData):
            with desk.trial():
                desk.tell(("cell", 0, 1), (2, 2))
                desk.tell(("row", "night"), (1, 1))
                desk.tell(("cell", 1, 1), (3, 3))
        self.assertEqual(state(desk), (HALL.changed(("cell", 0, 0), (2, 2)), ((("cell", 0, 0), (2, 2)),), 1))

    def test_tried(self):
        desk = Desk(HALL)

        def action(held):
            self.assertIs(held, desk)
            held.tell(("cell", 0, 0), (2, 2))
            return held.sure()

        self.assertEqual(desk.tried(action), ((0, 0), (1, 0)))
        self.assertEqual(desk.tried(action=len), 1)
        self.assertIs(desk.tried(lambda held: held.undo()), None)
        self.assertEqual(state(desk), (HALL, (), 0))

        def failing(held):
            action(held)
            raise KeyError("no")

        with self.assertRaises(KeyError) as caught:
            desk.tried(failing)
        self.assertEqual((caught.exception.args, state(desk)), (("no",), (HALL, (), 0)))


if __name__ == "__main__":
    unittest.main()
