"""Consoles: desks that are told and asked by lines of text."""

import inspect
import random
import unittest

from support import GRID, HALL, STRANGE, all_fillings, crosses_around, ends, told_numbers
from support_polls import refused, spoilt
from support_things import FULL, FULLER
from toldcounts.consoles import Console
from toldcounts.crosses import table_cross
from toldcounts.desks import Desk
from toldcounts.errors import NotADesk

NO_LINE = "no such line"
LINES = ("tell row all 4-5", "tell column both 9", "tell cell 0 1 0-3", "undo", "ends row night", "ends column young",
         "ends cell 1 1", "number", "sure", "first", "told")


def told_text(stretch):
    return str(stretch[0]) if stretch[0] == stretch[1] else f"{stretch[0]}-{stretch[1]}"


def filling_text(filling):
    return "/".join(" ".join(map(str, row)) for row in filling)


def said(*lines, cross=HALL):
    console = Console(Desk(cross))
    return [console.say(line) for line in lines]


class Lines(unittest.TestCase):
    def test_tellings(self):
        self.assertEqual(said("tell row all 4-5", "told", "ends row all", "tell cell 0 0 1", "told", "ends cell 0 0",
                              "tell column old 2", "told", "ends column old"),
                         ["told", "1", "4-5", "told", "2", "1", "told", "3", "2"])
        self.assertEqual(said("tell row all 4-6", "told", "undo", "undo", "told"),
                         ["told", "1", "undone", "NothingToUndo", "0"])

    def test_errors(self):
        self.assertEqual(said("tell row x 1", "tell column all 1", "tell cell 0 2 1", "tell cell 2 0 1", "ends row both",
                              "ends cell 9 9", "ends column day", "tell row x 4000", "told"),
                         ["InvalidTold"] * 8 + ["0"])
        self.assertEqual(said("tell row all 3", "tell row all 4-7", "tell cell 0 0 0-3", "tell row all 0-4000", "told"),
                         ["InvalidStretch"] * 4 + ["0"])
        self.assertEqual(said("tell cell 0 1 0", "tell row all 6", "tell cell 1 1 2", "told"), ["told", "NoData", "told", "2"])

    def test_numbers(self):
        self.assertEqual(said("number", "sure", "first", "told"), ["15", "1", "1 0/1 2", "0"])
        self.assertEqual(said("number", "sure", "first", cross=GRID), ["2", "0", "0 3/1 1"])
        self.assertEqual(said("number", "tell row all 4-5", "number", cross=FULLER)[:2], ["TooMany", "told"])
        self.assertEqual(said("number", cross=FULL), [str(len(all_fillings(FULL)))])
        self.assertEqual(said("number", "tell row all 4-40", "number", "undo", "number", cross=FULLER),
                         ["TooMany", "told", str(len(all_fillings(FULL))), "undone", "TooMany"])
        self.assertEqual(said("first", "sure", "number", cross=table_cross((7,), (7,))), ["7", "1", "1"])
        self.assertEqual(said("first", "ends row all", cross=table_cross((1000, 2), (1, 1, 1000))), ["0 0 1000/1 1 0", "1002"])

    def test_other_lines(self):
        wrong = ("", " ", "hello", "tell", "ends", "Tell row all 4", "tell row all", "tell row all 9-3", "tell row all 4-4",
                 "tell row all 04", "tell row all 4001", "tell row all 4-4001", "tell row all -4", "tell row all x",
                 "tell row all 4 ", " tell row all 4", "tell  row all 4", "tell row  all 4", "tell row all 4 5",
                 "tell row 1 4", "tell row All 4", "tell row abcdefghi 4", "tell row a-b 4", "tell row cell 0 0", "tell area all 4",
                 "tell cell 0 1", "tell cell 0 01 1", "tell cell 00 1 1", "tell cell -1 0 1", "tell cell 0 0 1 1", "tell cell x 0 1",
                 "tell cell 0,0 1", "tell all 4", "tell row\nall 4", "tell row all 4\n", "ends row", "ends row all 4", "ends all",
                 "ends cell 0", "ends cell 0 0 0", "ends cell 0 00", "ends cell 0 -1", "ends cell a b", "ends row all ", "ends  row all",
                 "ends row 0", "ends column", "undo ", "undo 1", "Undo", "undone", "number 1", "numbers", " number", "sure sure",
                 "sure\n", "first 1", "firsts", "told 0", "tolds", "tell told", "undo\nundo", "tell row all four", "ends ROW all",
                 "tell cell 0 0 +1", "tell row all 4-5-6", "NothingToUndo", "told\n", "tell row all - 4", "tell column both",
                 "ends row all\n", "ends cell 0 0\n", "tell cell 0 0 0-\n2", "tell row all  4", "first ", "ends cell  0 0",
                 "ends box 0 0", "tell box 0 0 1", "ends row 0 0", "tell cells 0 0 1", "ends  0 0", "ends CELL 0 0")
        console = Console(Desk(HALL))
        for line in wrong:
            self.assertEqual(console.say(line), NO_LINE, line)
        self.assertEqual([console.say(line) for line in ("told", "number")], ["0", "15"])

    def test_lines_that_are_nearly_right(self):
        many = 0
        for line in LINES:
            for other in spoilt(line):
                answer = Console(Desk(HALL)).say(other)
                self.assertIsInstance(answer, str)
                many += answer == NO_LINE
        self.assertGreater(many, 1200)
        for line in LINES:
            self.assertNotEqual(Console(Desk(HALL)).say(line), NO_LINE)


class Asked(unittest.TestCase):
    def test_answers_are_those_of_the_desk(self):
        chance = random.Random(391)
        for cross in crosses_around(392, 30, ((1, 2), (2, 1), (2, 2), (2, 2))):
            desk = Desk(cross)
            console = Console(desk)
            for _ in range(8):
                what = chance.choice(cross.tolds)
                low, high = desk.now.stretch(what)
                stretch = tuple(sorted((chance.randint(low, high), chance.randint(low, high))))
                before = desk.tale
                name = " ".join(map(str, what))
                fits = all_fillings(desk.now.changed(what, stretch))
                self.assertEqual(console.say(f"tell {name} {told_text(stretch)}"), "told" if fits else "NoData")
                self.assertEqual(desk.tale, before + ((what, stretch),) * bool(fits))
                if chance.random() < 0.3:
                    right = "undone" if desk.tale else "NothingToUndo"
                    self.assertEqual(console.say("undo"), right)
                self.check(console, desk)

    def check(self, console, desk):
        fillings = all_fillings(desk.now)
        numbers = told_numbers(desk.now, fillings)
        for what in desk.now.tolds:
            self.assertEqual(console.say("ends " + " ".join(map(str, what))), told_text(ends(numbers[what])))
        sure = sum(what[0] == "cell" and len(set(numbers[what])) == 1 for what in numbers)
        self.assertEqual([console.say(line) for line in ("number", "sure", "first", "told")],
                         [str(len(fillings)), str(sure), filling_text(fillings[0]), str(len(desk.tale))])

    def test_a_desk_that_is_told_otherwise(self):
        desk = Desk(HALL)
        one, other = Console(desk), Console(desk)
        self.assertEqual(one.say("number"), "15")
        desk.tell(("cell", 0, 0), (2, 2))
        self.assertEqual([one.say("number"), other.say("told")], ["7", "1"])
        other.say("tell cell 0 1 0")
        self.assertEqual([one.say("first"), one.say("told"), len(desk)], ["2 0/1 1", "2", 2])
        desk.undo()
        self.assertEqual([one.say("undo"), other.say("undo")], ["undone", "NothingToUndo"])
        with self.assertRaises(KeyError):
            with desk.trial():
                one.say("tell cell 0 0 2")
                raise KeyError
        self.assertEqual(one.say("told"), "0")

    def test_two_consoles(self):
        desk = Desk(HALL)
        one, other = Console(desk), Console(desk)
        self.assertFalse(one == other)
        self.assertTrue(one != other)
        self.assertTrue(one == one)
        self.assertFalse(one == desk)
        self.assertIs(bool(one), True)
        self.assertEqual(Console(desk=desk).say(line="told"), "0")
        self.assertEqual(list(inspect.signature(Console).parameters), ["desk"])
        self.assertEqual(list(inspect.signature(one.say).parameters), ["line"])
        self.assertIn("say", vars(Console))

    def test_wrong_desks(self):
        for value in STRANGE + (HALL, HALL.text, Console(Desk(HALL)), (Desk(HALL),)):
            self.assertIs(refused(self, NotADesk, Console, value).given, value)


if __name__ == "__main__":
    unittest.main()
