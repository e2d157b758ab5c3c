"""Shelves: things under names, and wishes that hold whatever is done ([29])."""

import inspect
import random
import unittest

from support import CROWDED, FEW, GRID, HALL, LAND, ONES, POOR, STRANGE, TOWN
from support_polls import NINE, refused
from support_things import EMPTY, LONELY, NO_THINGS, TINY, data_of, number_at, places_of
from toldcounts.errors import (Broken, InUse, InvalidIndex, InvalidLog, InvalidName, InvalidWish, NotAThing,
                               NothingToUndo, UnknownName)
from toldcounts.shelves import Shelf, played
from toldcounts.trials import Trial

FULL_LAND = LAND.changed("coast", (0, 5))
THINGS = (LAND, POOR, TINY, FULL_LAND, HALL, CROWDED, FEW, LONELY, EMPTY, ONES)
DATA = {thing.text: data_of(thing) for thing in THINGS}
WISHES = [("fits",), ("lone",), ("fewer", 1), ("fewer", 2), ("fewer", 12)] + [
    ("value", place, stretch) for place, stretch in (("coast", (3, 5)), ("all", (0, 12)), ("all", (3, 3)), ("west", (0, 4000)),
                                                     ((0, 1), (0, 3)), ((0, 0), (0, 2)), (2, (1, 2)), (1, (2, 2)),
                                                     ((0, 0, 1), (0, 1)), (None, (0, 0)))]


def state(shelf):
    return shelf.names, shelf.wishes, shelf.log, len(shelf), [shelf.thing(name) for name in shelf.names]


def is_met(thing, wish):
    """Whether a wish suits a thing and holds for it, by all its data."""
    data = DATA[thing.text]
    if wish[0] == "value":
        place, (low, high) = wish[1:]
        if place not in places_of(thing):
            return False
        return len(data) > 0 and all(low <= number_at(thing, each, place) <= high for each in data)
    return {"fits": len(data) > 0, "lone": len(data) == 1, "fewer": wish[0] == "fewer" and len(data) < wish[-1]}[wish[0]]


class Deeds(unittest.TestCase):
    def test_a_fresh_shelf(self):
        shelf = Shelf()
        self.assertEqual((shelf.names, shelf.wishes, shelf.log, len(shelf), bool(shelf)), ((), (), (), 0, True))
        refused(self, NothingToUndo, shelf.undo)
        self.assertIs(refused(self, InvalidIndex, shelf.lift, 0).given, 0)

    def test_things(self):
        shelf = Shelf()
        for name, thing in (("b", HALL), ("land", LAND), ("a", FEW), ("abcdefgh", ONES)):
            self.assertIs(shelf.put(name, thing), None)
        self.assertEqual(state(shelf)[0], ("a", "abcdefgh", "b", "land"))
        self.assertIs(shelf.thing("land"), LAND)
        self.assertIs(shelf.put(thing=TINY, name="land"), None)
        self.assertEqual((shelf.thing(name="land"), len(shelf)), (TINY, 4))
        self.assertIs(shelf.drop("b"), None)
        self.assertEqual(shelf.names, ("a", "abcdefgh", "land"))
        self.assertEqual(shelf.log, (("put", "b", HALL.text), ("put", "land", LAND.text), ("put", "a", FEW.text),
                                     ("put", "abcdefgh", ONES.text), ("put", "land", TINY.text), ("drop", "b")))
        self.assertEqual(["b" in shelf, "a" in shelf, "land" in shelf, LAND in shelf], [False, True, True, False])
        for value in STRANGE:
            self.assertIs(value in shelf, False)
        shelf.undo()
        self.assertEqual((shelf.thing("b"), len(shelf.log)), (HALL, 5))
        shelf.undo()
        self.assertEqual(shelf.thing("land"), LAND)

    def test_wishes(self):
        shelf = Shelf()
        shelf.put("land", LAND)
        shelf.put("hall", HALL)
        wishes = (("land", ("value", "coast", (3, 5))), ("hall", ("fits",)), ("land", ("fits",)), ("hall", ("fits",)))
        for name, wish in wishes:
            self.assertIs(shelf.wish(wish=wish, name=name), None)
        self.assertEqual(shelf.wishes, wishes)
        self.assertIs(shelf.lift(1), None)
        self.assertEqual(shelf.wishes, wishes[:1] + wishes[2:])
        shelf.lift(index=0)
        self.assertEqual(shelf.wishes, wishes[2:])
        self.assertEqual(shelf.log[2:], tuple(("wish", *pair) for pair in wishes) + (("lift", 1), ("lift", 0)))
        shelf.undo()
        shelf.undo()
        self.assertEqual(shelf.wishes, wishes)
        shelf.undo()
        self.assertEqual(shelf.wishes, wishes[:3])

    def test_each_change_counts(self):
        shelf = Shelf()
        shelf.put("a", LAND)
        shelf.put("a", LAND)
        self.assertEqual((len(shelf), len(shelf.log)), (1, 2))
        shelf.undo()
        self.assertEqual((len(shelf), len(shelf.log)), (1, 1))
        shelf.undo()
        self.assertEqual((len(shelf), shelf.log), (0, ()))
        refused(self, NothingToUndo, shelf.undo)

    def test_two_shelves(self):
        one, other = Shelf(), Shelf()
        self.assertFalse(one == other)
        self.assertTrue(one != other)
        self.assertTrue(one == one)
        self.assertFalse(one == ())
        one.put("a", LAND)
        self.assertEqual((one.names, other.names), (("a",), ()))

    def test_properties_and_parameters(self):
        shelf = Shelf()
        for name in ("names", "wishes", "log"):
            with self.assertRaises(AttributeError):
                setattr(shelf, name, None)
        for call, names in ((Shelf, ""), (shelf.put, "name thing"), (shelf.thing, "name"), (shelf.drop, "name"),
                            (shelf.wish, "name wish"), (shelf.lift, "index"), (shelf.undo, ""), (shelf.trial, ""),
                            (shelf.tried, "action"), (played, "log")):
            self.assertEqual(list(inspect.signature(call).parameters), names.split())
        for name in ("put thing drop wish lift undo names wishes log trial tried __len__ __contains__").split():
            self.assertIn(name, vars(Shelf))


class Model:
    """A shelf as a list of all its states, each a triple (change, things, wishes)."""

    def __init__(self):
        self.states = [(None, {}, [])]

    def told(self, kind, *told):
        """Makes a change; or tells which error it raises, and with what."""
        _, things, wishes = self.states[-1]
        if kind == "undo":
            if len(self.states) == 1:
                return NothingToUndo, None
            self.states.pop()
            return None
        wrong = self.wrong(kind, told, things, wishes)
        if wrong:
            return wrong
        things, wishes = dict(things), list(wishes)
        if kind == "put":
            things[told[0]] = told[1]
            told = (told[0], told[1].text)
        elif kind == "drop":
            del things[told[0]]
        elif kind == "wish":
            wishes.append(told)
        else:
            del wishes[told[0]]
        self.states.append(((kind, *told), things, wishes))
        return None

    def wrong(self, kind, told, things, wishes):
        if kind == "lift":
            return None if told[0] < len(wishes) else (InvalidIndex, told[0])
        if kind != "put" and told[0] not in things:
            return UnknownName, told[0]
        if kind == "wish":
            return None if is_met(things[told[0]], told[1]) else (Broken, len(wishes))
        for at, (name, wish) in enumerate(wishes):
            if name == told[0] and (kind == "drop" or not is_met(told[1], wish)):
                return (InUse if kind == "drop" else Broken), at
        return None

    def state(self):
        _, things, wishes = self.states[-1]
        log = tuple(change for change, _, _ in self.states[1:])
        return tuple(sorted(things)), tuple(wishes), log, len(things), [things[name] for name in sorted(things)]


class Random(unittest.TestCase):
    def test_many_deeds(self):
        chance, seen = random.Random(381), {}
        for _ in range(60):
            shelf, model = Shelf(), Model()
            for _ in range(60):
                kind = chance.choice(("put", "put", "put", "drop", "wish", "wish", "wish", "wish", "lift", "undo"))
                name = chance.choice(("a", "b", "c"))
                told = {"put": (name, chance.choice(THINGS)), "drop": (name,), "wish": (name, chance.choice(WISHES)),
                        "lift": (chance.randint(0, 3),), "undo": ()}[kind]
                wrong = model.told(kind, *told)
                call = getattr(shelf, kind)
                if wrong is None:
                    self.assertIs(call(*told), None)
                elif wrong[0] is NothingToUndo:
                    refused(self, NothingToUndo, call)
                else:
                    self.assertEqual(list(vars(refused(self, wrong[0], call, *told)).values()), [wrong[1]])
                seen[kind, wrong and wrong[0]] = seen.get((kind, wrong and wrong[0]), 0) + 1
                self.assertEqual(state(shelf), model.state())
            self.check_log(shelf, model)
        self.assertEqual(len(seen), 12)
        self.assertGreater(min(seen.values()), 15)

    def check_log(self, shelf, model):
        again = played(shelf.log)
        self.assertEqual(state(again), state(shelf))
        while len(model.states) > 1:
            self.assertEqual(state(again), model.state())
            again.undo()
            model.states.pop()
        refused(self, NothingToUndo, again.undo)


class Broke(unittest.TestCase):
    def shelf(self):
        shelf = Shelf()
        shelf.put("hall", HALL)
        shelf.put("land", LAND)
        for name, wish in (("hall", ("fits",)), ("land", ("fewer", 20)), ("land", ("value", "coast", (3, 5))),
                           ("land", ("fits",))):
            shelf.wish(name, wish)
        return shelf

    def check(self, call, *values):
        """The index that the error tells; nothing is changed."""
        shelf = self.shelf()
        before = state(shelf)
        error = refused(self, Broken if call != "drop" else InUse, getattr(shelf, call), *values)
        self.assertEqual(state(shelf), before)
        return error.index

    def test_things_under_which_wishes_break(self):
        self.assertEqual(self.check("put", "land", TOWN), 1)
        self.assertEqual(self.check("put", "land", TINY), 2)
        self.assertEqual(self.check("put", "land", POOR), 2)
        self.assertEqual(self.check("put", "land", HALL), 2)
        self.assertEqual(self.check("put", "land", EMPTY), 2)
        self.assertEqual(self.check("put", "hall", CROWDED), 0)
        shelf = self.shelf()
        shelf.put("land", LAND.changed("all", (11, 12)))
        shelf.put("hall", GRID)
        shelf.put("hall", FEW)
        shelf.put("poor", POOR)
        shelf.lift(2)
        self.assertEqual(refused(self, Broken, shelf.put, "land", POOR).index, 2)
        shelf.put("land", TINY)

    def test_things_for_which_there_are_wishes(self):
        self.assertEqual(self.check("drop", "hall"), 0)
        self.assertEqual(self.check("drop", "land"), 1)
        shelf = self.shelf()
        shelf.lift(0)
        shelf.drop("hall")
        self.assertEqual(refused(self, InUse, shelf.drop, "land").index, 0)
        for _ in range(3):
            shelf.lift(0)
        shelf.drop("land")
        self.assertEqual((len(shelf), shelf.wishes), (0, ()))

    def test_wishes_that_do_not_hold(self):
        for wish in (("lone",), ("fewer", 15), ("value", "coast", (0, 4000)), ("value", (0, 2), (0, 4000)),
                     ("value", (0, 1), (0, 2)), ("value", None, (0, 0)), ("value", [0, 0], (0, 9))):
            self.assertEqual(self.check("wish", "hall", wish), 4)
        shelf = self.shelf()
        shelf.wish("hall", ("fewer", 16))
        self.assertEqual(refused(self, Broken, shelf.wish, "land", ("lone",)).index, 5)


class Wrong(unittest.TestCase):
    def test_values_of_any_kind(self):
        shelf = Shelf()
        shelf.put("land", LAND)
        shelf.wish("land", ("fits",))
        before = state(shelf)
        for value in STRANGE + ("Land", "abcdefghi", "a1", "", 0, ("land",), ["land"], "land ", "l\n", b"land"):
            self.assertIs(refused(self, InvalidName, shelf.put, value, None).given, value)
        for value in STRANGE + NO_THINGS + (NINE, LAND.text, (LAND,)):
            self.assertIs(refused(self, NotAThing, shelf.put, "land", value).given, value)
            self.assertIs(refused(self, NotAThing, Shelf().put, "land", value).given, value)
        for value in STRANGE + ("town", "Land", ("land",), ["land"], LAND, "land "):
            for call in (shelf.thing, shelf.drop):
                self.assertIs(refused(self, UnknownName, call, value).given, value)
            self.assertIs(refused(self, UnknownName, shelf.wish, value, None).given, value)
        for value in STRANGE + ("fits", ["fits"], ("fits", 1), ("fewer", 0), ("value", "all"), ("value", "all", (3, 2))):
            self.assertIs(refused(self, InvalidWish, shelf.wish, "land", value).given, value)
        for value in STRANGE + (1, "0", (0,), -1):
            self.assertIs(refused(self, InvalidIndex, shelf.lift, value).given, value)
        self.assertEqual(state(shelf), before)


class Trying(unittest.TestCase):
    def test_trials(self):
        shelf = Shelf()
        self.assertIsInstance(shelf.trial(), Trial)
        with shelf.trial() as held:
            self.assertIs(held, shelf)
            shelf.put("land", LAND)
        before = state(shelf)
        with self.assertRaises(Broken):
            with shelf.trial():
                shelf.put("hall", HALL)
                shelf.wish("hall", ("fits",))
                shelf.drop("land")
                shelf.wish("hall", ("lone",))
        self.assertEqual(state(shelf), before)

    def test_tried(self):
        shelf = Shelf()

        def action(held):
            self.assertIs(held, shelf)
            held.put("land", LAND)
            return held.thing("land")

        self.assertIs(shelf.tried(action), LAND)
        self.assertEqual(shelf.tried(action=len), 1)
        with self.assertRaises(UnknownName):
            shelf.tried(lambda held: (held.undo(), held.drop("land")))
        self.assertEqual(shelf.names, ("land",))


class Logs(unittest.TestCase):
    LOG = (("put", "land", LAND.text), ("wish", "land", ("fits",)), ("put", "hall", HALL.text), ("lift", 0),
           ("drop", "land"))

    def test_logs(self):
        self.assertEqual(state(played(())), state(Shelf()))
        for at in range(6):
            self.assertEqual(played(log=self.LOG[:at]).log, self.LOG[:at])
        self.assertEqual(state(played(self.LOG))[:2], (("hall",), ()))

    def test_logs_that_are_none(self):
        for value in STRANGE + (list(self.LOG), "log", None, 0):
            if not isinstance(value, tuple):
                self.assertIsNone(refused(self, InvalidLog, played, value).index)
        wrong = STRANGE + ((), ("put", "land"), ("put", "land", LAND), ("put", "Land", LAND.text), ("put", "land", LAND.text, 1),
                           ("put", "land", LAND.text + "\n"), ("put", "hall", NO_THINGS[0].text), ("put", "land", None),
                           ("drop", "x"), ("drop",), ("drop", "hall", 1), ("drop", None), ("wish", "land"), ("lift",),
                           ("wish", "x", ("fits",)), ("wish", "land", ("fit",)), ("wish", "land", ("lone",)),
                           ("wish", "land", ("value", (0, 0), (0, 1))), ("wish", "land", None), ("lift", 1), ("lift", -1),
                           ("lift", True), ("lift", "0"), ("lift", 0, 0), ("undo",), ("Put", "land", LAND.text), ("",),
                           ["put", "land", LAND.text], ("put", ["land"], LAND.text), ("drop", "land"), (b"drop", "land"),
                           ("put", "land", TINY.text.replace("area", "area ")), ("put", "land", POOR.text))
        for value in wrong:
            self.assertEqual(refused(self, InvalidLog, played, self.LOG[:2] + (value,)).index, 2)
            self.assertEqual(refused(self, InvalidLog, played, self.LOG[:3] + (value, None, 1)).index, 3)
            self.assertEqual(refused(self, InvalidLog, played, (("lift", 0), value)).index, 0)
        self.assertEqual(refused(self, InvalidLog, played, self.LOG + self.LOG[-1:]).index, 5)
        self.assertEqual(refused(self, InvalidLog, played, self.LOG[1:]).index, 0)

    def test_what_is_passed_stays_as_it_is(self):
        shelf = Shelf()
        shelf.put("land", LAND)
        told = (shelf.log, shelf.names, shelf.wishes)
        kept = [tuple(value) for value in told]
        shelf.put("a", FEW)
        shelf.wish("a", ("fits",))
        self.assertEqual(list(told), kept)


if __name__ == "__main__":
    unittest.main()
