"""Things of four sorts ([29])."""

import unittest

from support import (APART, CROWDED, FEW, GRID, HALL, LAND, ONES, STRANGE, THIRTEEN, TWELVE, ends, great_side)
from support_polls import HALVES, NINE, refused, spoilt
from support_things import EMPTY, FULL, FULLER, NO_THINGS, THINGS, data_of, number_at, pairs_of_things, places_of, sort_of
from toldcounts.crosses import Cross
from toldcounts.errors import InvalidPlace, InvalidText, NoData, NotAThing
from toldcounts.pages import Page
from toldcounts.things import data_number, first_data, has_data, place_range, read_thing, thing_text

PAIRS = pairs_of_things(351, 60)
PAGE = Page(HALL, ((1, 2), (1, 0)), ())


class Small(unittest.TestCase):
    def test_data(self):
        seen = set()
        for thing, data in PAIRS:
            self.assertIs(has_data(thing), len(data) > 0)
            self.assertEqual(data_number(thing), len(data))
            self.assertEqual(first_data(thing), data[0] if data else None)
            seen.add((sort_of(thing), min(len(data), 2)))
        self.assertEqual(seen, {(sort, many) for sort in ("Areas", "Cross", "Report", "Faces") for many in (0, 1, 2)})

    def test_ranges_of_places(self):
        for thing, data in PAIRS:
            for place in places_of(thing):
                if data:
                    right = ends([number_at(thing, each, place) for each in data])
                    self.assertEqual(place_range(thing, place), right, (thing.text, place))
                else:
                    refused(self, NoData, place_range, thing, place)

    def test_texts(self):
        for thing, _ in PAIRS:
            self.assertEqual(thing_text(thing), thing.text)
            self.assertEqual(read_thing(thing.text), thing)
            self.assertEqual(sort_of(read_thing(text=thing.text)), sort_of(thing))


class Edges(unittest.TestCase):
    def test_the_greatest_crosses(self):
        self.assertEqual((has_data(FULL), data_number(FULL)), (True, len(data_of(FULL))))
        self.assertEqual(read_thing(FULL.text), FULL)
        for call in (has_data, data_number, first_data, thing_text):
            self.assertIs(refused(self, NotAThing, call, FULLER).given, FULLER)
        self.assertIs(refused(self, NotAThing, place_range, FULLER, None).given, FULLER)
        self.assertEqual(refused(self, InvalidText, read_thing, FULLER.text).given, FULLER.text)
        wide = HALL.changed(("column", "both"), (0, 4000)).changed(("row", "day"), (1, 4000))
        self.assertEqual(read_thing(thing_text(wide)), wide)

    def test_the_greatest_faces(self):
        self.assertEqual((has_data(TWELVE), first_data(TWELVE)), (True, (((4, 0, 0), (0, 4, 0), (0, 0, 4)),)))
        self.assertEqual(read_thing(TWELVE.text), TWELVE)
        for call in (has_data, data_number, first_data, thing_text):
            self.assertIs(refused(self, NotAThing, call, THIRTEEN).given, THIRTEEN)
        self.assertEqual(refused(self, InvalidText, read_thing, THIRTEEN.text).given, THIRTEEN.text)

    def test_great_crosses(self):
        side = great_side("abcd", (0, 9), (0, 9), (0, 4))
        cross = Cross(side, side, (((0, 1),) * 4,) * 4)
        self.assertEqual(place_range(cross, (3, 3)), (0, 1))
        self.assertEqual(first_data(cross), ((0,) * 4,) * 4)
        self.assertEqual(read_thing(thing_text(cross)), cross)

    def test_things_without_data(self):
        for thing in (CROWDED, APART, EMPTY, LAND.changed("all", (0, 1))):
            self.assertEqual((has_data(thing), data_number(thing), first_data(thing)), (False, 0, None))
            place = places_of(thing)[0]
            refused(self, NoData, place_range, thing, place)
            self.assertIs(refused(self, InvalidPlace, place_range, thing, NINE).given, NINE)


class Wrong(unittest.TestCase):
    def test_things(self):
        for value in STRANGE + NO_THINGS + (PAGE, HALVES, NINE, LAND.text, LAND.lines, (LAND,)):
            for call in (has_data, data_number, first_data, thing_text):
                self.assertIs(refused(self, NotAThing, call, value).given, value)
            self.assertIs(refused(self, NotAThing, place_range, value, None).given, value)

    def test_places(self):
        places = {sort_of(thing): places_of(thing) for thing in (LAND, HALL, FEW, ONES)}
        for thing in (LAND, HALL, FEW, ONES):
            for value in STRANGE + ("wall", "", (0, 2), (2, 0), (0, 0, 2), (0, 2, 0), (2, 0, 0), (0, -1), (0, 0, -1), 0, 6,
                                    (0,), (0, 0, 0, 0), "0", [0, 0], [0, 0, 0], (False, 0), (0, 0, False), True,
                                    ("cell", 0, 0), ("row", "all"), ("all",), b"all"):
                self.assertIs(refused(self, InvalidPlace, place_range, thing, value).given, value)
            for sort, others in places.items():
                for value in others if sort != sort_of(thing) else ():
                    self.assertIs(refused(self, InvalidPlace, place_range, thing, value).given, value)
        refused(self, InvalidPlace, place_range, GRID, "all")

    def test_texts(self):
        for value in STRANGE + (PAGE.text, HALVES.text, NINE.text, "area", "row", "report", "front", "area ", "row ",
                                "front ", "report ", f"{LAND.text}\n{HALL.text}", LAND.text.replace("area", "row"),
                                HALL.text.replace("row", "area"), f"{FEW.text}\n{FEW.text}", ONES.text[1:]):
            self.assertIs(refused(self, InvalidText, read_thing, value).given, value)

    def test_texts_that_are_nearly_right(self):
        refusals = 0
        for thing in THINGS:
            for text in spoilt(thing.text):
                try:
                    found = read_thing(text)
                except InvalidText as error:
                    self.assertIs(error.given, text)
                    refusals += 1
                else:
                    self.assertEqual(thing_text(found), text)
        self.assertGreater(refusals, 7000)


if __name__ == "__main__":
    unittest.main()
