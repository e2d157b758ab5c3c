"""The examples of the document's interface, as they stand there: one goes on from another."""

import doctest
import pathlib
import unittest

README = pathlib.Path(__file__).resolve().parent.parent / "README.md"

EXAMPLES = r'''
>>> from toldcounts.stretches import in_both, read_stretch, stretch_text
>>> [stretch_text((3, 8)), stretch_text((4, 4)), read_stretch("0-12"), in_both((0, 5), (3, 9)), in_both((0, 2), (3, 9))]
['3-8', '4', (0, 12), (3, 5), None]

>>> from toldcounts.areas import Areas
>>> land = Areas((("all", "", (10, 12)), ("north", "all", (0, 9)), ("south", "all", (0, 4)), ("coast", "north", (2, 5)), ("hills", "north", (0, 3))))
>>> [land.text.split("\n")[1], land.names, land.leaves, land.inner("north"), land.stretch("south"), len(land), Areas.told(land.text) == land, land.changed("all", (7, 7)).text.split("\n")[0]]
['area north all 0-9', ('all', 'north', 'south', 'coast', 'hills'), ('south', 'coast', 'hills'), ('coast', 'hills'), (0, 4), 5, True, 'area all - 7']

>>> from toldcounts.areacounts import area_bar, count_by_leaves, first_count, is_area_bar, is_count, last_count
>>> [first_count(land), last_count(land), is_count(land, (11, 7, 4, 5, 2)), count_by_leaves(land, (3, 5, 3)), count_by_leaves(land, (0, 5, 3))]
[(10, 6, 4, 3, 3), (12, 8, 4, 5, 3), True, (11, 8, 3, 5, 3), None]
>>> poor, rich = land.changed("all", (13, 20)), land.changed("hills", (8, 9)).changed("all", (0, 9))
>>> [area_bar(land), is_area_bar(poor, ("less", "all", ("coast", "hills", "south"))), is_area_bar(rich, ("more", "all", ("coast", "hills"))), is_area_bar(poor, ("less", "all", ("coast", "south"))), first_count(rich)]
[None, True, True, False, None]

>>> from toldcounts.arearanges import area_range, area_ranges, needless_lines, tight_areas
>>> [area_range(land, "coast"), area_ranges(land), tight_areas(land).lines[1], needless_lines(land)]
[(3, 5), ((10, 12), (6, 8), (2, 4), (3, 5), (1, 3)), ('north', 'all', (6, 8)), ('north',)]

>>> from toldcounts.areanumbers import area_numbers, count_at, counts_number, index_of_count
>>> [counts_number(land), count_at(land, 0), count_at(land, 9), index_of_count(land, (12, 8, 4, 5, 3)), area_numbers(land, "all")]
[10, (10, 6, 4, 3, 3), (12, 8, 4, 5, 3), 9, ((10, 6), (11, 3), (12, 1))]

>>> from toldcounts.areapages import area_guess, is_safe_area, least_area_covers, worked_out_areas
>>> town = Areas((("all", "", (0, 99)), ("east", "all", (0, 99)), ("west", "all", (0, 99)), ("mid", "all", (0, 99))))
>>> seen = (20, 7, 9, 4)
>>> [area_guess(town, seen, ("east",), "east"), worked_out_areas(town, seen, ("east",)), area_guess(town, seen, ("east", "west"), "east"), is_safe_area(town, seen, ("east", "west"), "east", 16)]
[(7, 7), ('east',), (0, 16), True]
>>> [least_area_covers(town, seen, ("east",), ("east",), 11), least_area_covers(town, seen, ("east",), ("east",), 17), least_area_covers(town, seen, ("east", "west"), ("east",), 5)]
[(('all',), ('mid',), ('west',)), (('all',), ('mid', 'west')), ((),)]

>>> from toldcounts.arearoundings import area_roundings_number, either_way_areas, first_area_rounding, is_area_rounding, least_distance, nearest_area_rounding
>>> [first_area_rounding(town, seen, 5), area_roundings_number(town, seen, 5), nearest_area_rounding(town, seen, 5), least_distance(town, seen, 5), is_area_rounding(town, seen, 5, (20, 5, 5, 10)), either_way_areas(town, seen, 5)]
[(20, 5, 10, 5), 3, (20, 5, 10, 5), 4, False, ('east', 'west', 'mid')]

>>> from toldcounts.crosses import Cross, table_cross, turned
>>> grid = table_cross((3, 2), (1, 4))
>>> shifts = Areas((("all", "", (4, 6)), ("day", "all", (1, 4)), ("night", "all", (0, 3))))
>>> ages = Areas((("both", "", (0, 9)), ("old", "both", (2, 3)), ("young", "both", (1, 4))))
>>> hall = Cross(shifts, ages, (((0, 2), (0, 4)), ((1, 1), (0, 9))))
>>> [grid.text.split("\n")[2], grid.tolds[3], grid.stretch(("column", "b")), len(grid), turned(grid) == table_cross((1, 4), (3, 2)), Cross.told(hall.text) == hall, hall.text.split("\n")[-1], hall.changed(("cell", 0, 1), (2, 2)).cells[0]]
['row b all 2', ('column', 'all'), (4, 4), 4, True, True, 'cells 1 0-9', ((0, 2), (2, 2))]

>>> from toldcounts.fillings import a_filling, cross_bar, is_cross_bar, is_filling
>>> crowded = hall.changed(("row", "all"), (9, 9))
>>> [is_filling(hall, ((1, 2), (1, 0))), is_filling(hall, ((0, 2), (1, 1))), is_filling(hall, a_filling(hall)), cross_bar(hall), a_filling(crowded)]
[True, False, True, None, None]
>>> [is_cross_bar(crowded, ((), ("both",), True)), is_cross_bar(hall, ((), ("both",), True)), is_cross_bar(crowded, cross_bar(crowded))]
[True, False, True]

>>> from toldcounts.crossranges import block_range, cell_range, column_range, needless_tolds, row_range, sure_cells, tight_cross
>>> [cell_range(hall, (0, 1)), row_range(hall, "night"), column_range(hall, "both"), block_range(hall, (0, 1), (1,)), sure_cells(hall), tight_cross(hall).text.split("\n")[-2:]]
[(0, 3), (1, 3), (4, 6), (1, 4), ((1, 0),), ['cells 1-2 0-3', 'cells 1 0-2']]
>>> needless_tolds(hall)
(('column', 'both'), ('column', 'young'), ('cell', 0, 0), ('cell', 0, 1), ('cell', 1, 1))
'''


class Examples(unittest.TestCase):
    def test_examples(self):
        self.check(EXAMPLES)

    def test_readme(self):
        self.check(README.read_text(encoding="utf-8").replace("```", ""))

    def check(self, text):
        test = doctest.DocTestParser().get_doctest(text, {}, "examples", None, None)
        told = []
        result = doctest.DocTestRunner(verbose=False).run(test, out=told.append)
        self.assertEqual(result.failed, 0, "".join(told))
        self.assertEqual(result.attempted, text.count(">>> "))


if __name__ == "__main__":
    unittest.main()
