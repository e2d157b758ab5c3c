"""The examples of the document's interface, as they stand there: one goes on from another."""

import doctest
import pathlib
import unittest

README = pathlib.Path(__file__).resolve().parent.parent / "README.md"

EXAMPLES = r'''
>>> from toldcounts.stretches import in_both, read_stretch, stretch_text
>>> [stretch_text((3, 8)), stretch_text((4, 4)), read_stretch("0-12"), in_both((0, 5), (3, 9)), in_both((0, 2), (3, 9))]
['3-8', '4', (0, 12), (3, 5), None]

>>> from toldcounts.areas import Areas
>>> land = Areas((("all", "", (10, 12)), ("north", "all", (0, 9)), ("south", "all", (0, 4)), ("coast", "north", (2, 5)), ("hills", "north", (0, 3))))
>>> [land.text.split("\n")[1], land.names, land.leaves, land.inner("north"), land.stretch("south"), len(land), Areas.told(land.text) == land, land.changed("all", (7, 7)).text.split("\n")[0]]
['area north all 0-9', ('all', 'north', 'south', 'coast', 'hills'), ('south', 'coast', 'hills'), ('coast', 'hills'), (0, 4), 5, True, 'area all - 7']

>>> from toldcounts.areacounts import area_bar, count_by_leaves, first_count, is_area_bar, is_count, last_count
>>> [first_count(land), last_count(land), is_count(land, (11, 7, 4, 5, 2)), count_by_leaves(land, (3, 5, 3)), count_by_leaves(land, (0, 5, 3))]
[(10, 6, 4, 3, 3), (12, 8, 4, 5, 3), True, (11, 8, 3, 5, 3), None]
>>> poor, rich = land.changed("all", (13, 20)), land.changed("hills", (8, 9)).changed("all", (0, 9))
>>> [area_bar(land), is_area_bar(poor, ("less", "all", ("coast", "hills", "south"))), is_area_bar(rich, ("more", "all", ("coast", "hills"))), is_area_bar(poor, ("less", "all", ("coast", "south"))), first_count(rich)]
[None, True, True, False, None]

>>> from toldcounts.arearanges import area_range, area_ranges, needless_lines, tight_areas
>>> [area_range(land, "coast"), area_ranges(land), tight_areas(land).lines[1], needless_lines(land)]
[(3, 5), ((10, 12), (6, 8), (2, 4), (3, 5), (1, 3)), ('north', 'all', (6, 8)), ('north',)]

>>> from toldcounts.areanumbers import area_numbers, count_at, counts_number, index_of_count
>>> [counts_number(land), count_at(land, 0), count_at(land, 9), index_of_count(land, (12, 8, 4, 5, 3)), area_numbers(land, "all")]
[10, (10, 6, 4, 3, 3), (12, 8, 4, 5, 3), 9, ((10, 6), (11, 3), (12, 1))]

>>> from toldcounts.areapages import area_guess, is_safe_area, least_area_covers, worked_out_areas
>>> town = Areas((("all", "", (0, 99)), ("east", "all", (0, 99)), ("west", "all", (0, 99)), ("mid", "all", (0, 99))))
>>> seen = (20, 7, 9, 4)
>>> [area_guess(town, seen, ("east",), "east"), worked_out_areas(town, seen, ("east",)), area_guess(town, seen, ("east", "west"), "east"), is_safe_area(town, seen, ("east", "west"), "east", 16)]
[(7, 7), ('east',), (0, 16), True]
>>> [least_area_covers(town, seen, ("east",), ("east",), 11), least_area_covers(town, seen, ("east",), ("east",), 17), least_area_covers(town, seen, ("east", "west"), ("east",), 5)]
[(('all',), ('mid',), ('west',)), (('all',), ('mid', 'west')), ((),)]

>>> from toldcounts.arearoundings import area_roundings_number, either_way_areas, first_area_rounding, is_area_rounding, least_distance, nearest_area_rounding
>>> [first_area_rounding(town, seen, 5), area_roundings_number(town, seen, 5), nearest_area_rounding(town, seen, 5), least_distance(town, seen, 5), is_area_rounding(town, seen, 5, (20, 5, 5, 10)), either_way_areas(town, seen, 5)]
[(20, 5, 10, 5), 3, (20, 5, 10, 5), 4, False, ('east', 'west', 'mid')]

>>> from toldcounts.crosses import Cross, table_cross, turned
>>> grid = table_cross((3, 2), (1, 4))
>>> shifts = Areas((("all", "", (4, 6)), ("day", "all", (1, 4)), ("night", "all", (0, 3))))
>>> ages = Areas((("both", "", (0, 9)), ("old", "both", (2, 3)), ("young", "both", (1, 4))))
>>> hall = Cross(shifts, ages, (((0, 2), (0, 4)), ((1, 1), (0, 9))))
>>> [grid.text.split("\n")[2], grid.tolds[3], grid.stretch(("column", "b")), len(grid), turned(grid) == table_cross((1, 4), (3, 2)), Cross.told(hall.text) == hall, hall.text.split("\n")[-1], hall.changed(("cell", 0, 1), (2, 2)).cells[0]]
['row b all 2', ('column', 'all'), (4, 4), 4, True, True, 'cells 1 0-9', ((0, 2), (2, 2))]

>>> from toldcounts.fillings import a_filling, cross_bar, is_cross_bar, is_filling
>>> crowded = hall.changed(("row", "all"), (9, 9))
>>> [is_filling(hall, ((1, 2), (1, 0))), is_filling(hall, ((0, 2), (1, 1))), is_filling(hall, a_filling(hall)), cross_bar(hall), a_filling(crowded)]
[True, False, True, None, None]
>>> [is_cross_bar(crowded, ((), ("both",), True)), is_cross_bar(hall, ((), ("both",), True)), is_cross_bar(crowded, cross_bar(crowded))]
[True, False, True]

>>> from toldcounts.crossranges import block_range, cell_range, column_range, needless_tolds, row_range, sure_cells, tight_cross
>>> [cell_range(hall, (0, 1)), row_range(hall, "night"), column_range(hall, "both"), block_range(hall, (0, 1), (1,)), sure_cells(hall), tight_cross(hall).text.split("\n")[-2:]]
[(0, 3), (1, 3), (4, 6), (1, 4), ((1, 0),), ['cells 1-2 0-3', 'cells 1 0-2']]
>>> needless_tolds(hall)
(('column', 'both'), ('column', 'young'), ('cell', 0, 0), ('cell', 0, 1), ('cell', 1, 1))

>>> from toldcounts.firsts import first_filling, last_filling, next_filling
>>> [first_filling(hall), last_filling(hall), next_filling(hall, ((1, 0), (1, 2))), next_filling(hall, ((2, 2), (1, 1))), first_filling(crowded)]
[((1, 0), (1, 2)), ((2, 2), (1, 1)), ((1, 1), (1, 1)), None, None]

>>> from toldcounts.crossnumbers import cell_numbers, filling_at, fillings_number, index_of_filling
>>> [fillings_number(hall), fillings_number(grid), filling_at(hall, 8), index_of_filling(hall, ((2, 2), (1, 1))), cell_numbers(hall, (0, 0)), cell_numbers(hall, (1, 1))]
[15, 2, ((2, 0), (1, 1)), 14, ((1, 8), (2, 7)), ((0, 4), (1, 6), (2, 5))]

>>> from toldcounts.ways import a_corner, free_step, is_corner, is_step, is_way, way
>>> one, two = ((0, 3), (1, 1)), ((1, 2), (0, 2))
>>> way(grid, one, two)
(((((0, 0), (1, 1)), ((0, 1), (1, 0))), 1),)
>>> [is_step(grid, (((0, 0),), ())), is_step(grid, (((0, 0), (0, 1)), ())), is_way(grid, one, two, way(grid, one, two)), is_way(grid, two, one, way(grid, one, two)), is_corner(grid, one), free_step(grid, two), is_corner(hall, ((1, 1), (1, 1))), is_corner(hall, a_corner(hall))]
[True, False, True, False, True, None, False, True]

>>> from toldcounts.pages import Page, guess, guesses, is_safe, known, least_covers, worked_out
>>> sheet, numbers = table_cross((5, 4), (3, 6)), ((2, 3), (1, 3))
>>> blank = Page(sheet, numbers, ((0, 0), (0, 1), (1, 0), (1, 1)))
>>> [blank.text.split("\n")[-1], guesses(blank), worked_out(blank), is_safe(blank, (0, 0), 3), is_safe(blank, (0, 0), 4), known(blank) == sheet]
['numbers 1? 3?', (((0, 0), (0, 3)), ((0, 1), (2, 5)), ((1, 0), (0, 3)), ((1, 1), (1, 4))), (), True, False, True]
>>> bare = Page(sheet, numbers, ((0, 0),))
>>> [worked_out(bare), guess(bare, (1, 1)), least_covers(bare, ((0, 0),), 2), least_covers(bare, ((0, 0),), 4)]
[((0, 0),), (3, 3), (((0, 1), (1, 0), (1, 1)),), ()]

>>> from toldcounts.crossroundings import either_way_cells, first_rounding, is_rounding, rounding_cross
>>> [rounding_cross(sheet, numbers, 5).text.split("\n")[0], first_rounding(sheet, numbers, 5), is_rounding(sheet, numbers, 5, ((5, 0), (0, 5))), is_rounding(sheet, numbers, 5, ((5, 0), (0, 0))), either_way_cells(sheet, numbers, 5)]
['row all - 1-2', ((0, 5), (0, 0)), True, False, ((0, 0), (0, 1), (1, 0), (1, 1))]

>>> from toldcounts.scores import people_for_mean, squares_for, told_mean, told_spread, totals_for
>>> [told_mean(4, 10, 2), told_spread(4, 10, 30, 2), totals_for(3, (1, 5), 33, 1)]
[250, 125, (10,)]
>>> people_for_mean((1, 5), 233, 2, 12), squares_for(3, (1, 5), 9)
((3, 6, 9, 12), (27, 29, 33, 35))

>>> from toldcounts.reports import Report
>>> few = Report(3, (1, 5), (("mean", 0, 3), ("middle", 2)))
>>> few.text, few.more(("total", (8, 10))).without(1).facts
('report 3 1-5\nmean 0 3\nmiddle 2', (('mean', 0, 3), ('total', (8, 10))))

>>> from toldcounts.reportdata import first_scores, index_of_scores, last_scores, scores_at, scores_number
>>> [scores_number(few), first_scores(few), scores_at(few, 1), last_scores(few), index_of_scores(few, (2, 2, 5))]
[3, (1, 2, 5), (2, 2, 4), (2, 2, 5), 2]

>>> from toldcounts.reportvalues import highest, holders, least_clashes, lowest, needless_facts, rest_totals, squares, totals
>>> [holders(few, 2), totals(few), squares(few), lowest(few), highest(few)]
[(1, 2), (8, 9), (24, 30, 33), (1, 2), (4, 5)]
>>> needless_facts(few), needless_facts(few.more(("total", (8, 10))))
((), (0, 2))
>>> least_clashes(Report(3, (1, 5), (("middle", 2), ("total", (13, 15)), ("least", 3))))
((0, 1), (0, 2))
>>> rest_totals(few, Report(1, (1, 5), (("least", 2),)))
(6, 7)

>>> from toldcounts.faces import Faces, agree, box_faces, tipped
>>> box = (((1, 0), (0, 2)), ((0, 1), (1, 0)))
>>> [box_faces(box).text.split("\n"), box_faces(box).edges, len(box_faces(box)), tipped(box_faces(box)).text.split("\n")]
[['front 1 2', 'front 1 1', 'side 1 2', 'side 1 1', 'top 1 1', 'top 1 2'], (2, 2, 2), 8, ['front 1 1', 'front 2 1', 'side 1 1', 'side 1 2', 'top 1 2', 'top 1 1']]
>>> apart, ones = Faces(((1, 0), (0, 1)), ((1, 0), (0, 1)), ((0, 1), (1, 0))), Faces(((1, 1), (1, 1)), ((1, 1), (1, 1)), ((1, 1), (1, 1)))
>>> [agree(apart), agree(Faces(((1,),), ((2,),), ((1,),)))]
[True, False]

>>> from toldcounts.boxes import box_at, boxes_number, first_box, index_of_box, is_box, last_box
>>> [boxes_number(apart), first_box(apart), boxes_number(ones), first_box(ones), last_box(ones)]
[0, None, 2, (((0, 1), (1, 0)), ((1, 0), (0, 1))), (((1, 0), (0, 1)), ((0, 1), (1, 0)))]
>>> [index_of_box(ones, last_box(ones)), box_at(ones, 0) == first_box(ones), is_box(ones, box)]
[1, True, False]

>>> from toldcounts.boxvalues import gap_pairs, pair_values, slab_boxes, spot_values, sure_spots, tops_number
>>> [spot_values(ones, (0, 0, 0)), pair_values(ones, (0, 0, 0), (0, 1, 1)), pair_values(ones, (0, 0, 0), (0, 0, 1)), sure_spots(ones), gap_pairs(ones)[0], sure_spots(box_faces((((2, 0),),)))]
[(0, 1), (0, 2), (1,), (), ((0, 0, 0), (0, 1, 1)), ((0, 0, 0), (0, 0, 1))]
>>> [slab_boxes(((1, 1), (1, 1)), ((1, 1), (1, 1))), tops_number(((1, 1), (1, 1)), ((1, 1), (1, 1)))]
[4, 3]

>>> from toldcounts.islands import islands, turns_of
>>> [turns_of(ones, first_box(ones)) == (last_box(ones),), islands(ones) == ((first_box(ones), 2),)]
[True, True]
>>> apart = box_faces((((1, 0, 0), (0, 1, 0), (0, 0, 1)), ((0, 1, 0), (0, 0, 1), (1, 0, 0))))
>>> [boxes_number(apart), islands(apart) == ((first_box(apart), 1), (last_box(apart), 1))]
[2, True]

>>> from toldcounts.polls import Poll, count_stretch, poll_of
>>> halves = Poll(0, (50, 50))
>>> halves.text, poll_of((1, 1, 1), 0).shares, count_stretch(33, 100, 0), count_stretch(33, 7, 0)
('poll 0 50 50', (33, 33, 33), (33, 33), None)

>>> from toldcounts.pollpeople import count_ranges, first_counts, from_on, least_people, people_for, pollings_number, same_people
>>> people_for(halves, 9), from_on(halves), least_people(halves)
((2, 4, 6, 8), 100, 2)
>>> first_counts(halves, 101), count_ranges(halves, 101), pollings_number(halves, 101), first_counts(halves, 99)
((50, 51), ((50, 51), (50, 51)), 2, None)
>>> from_on(Poll(0, (50, 51))), least_people(Poll(0, (50, 51))), same_people((halves, Poll(0, (33, 67))), 12)
(None, 200, (6, 12))

>>> from toldcounts.votes import Votes, votes_of
>>> nine, open_nine = Votes(9, (5, 4, 6), ((0, 9), (0, 9), (2, 2))), Votes(9, (5, 4, 6), ((0, 9), (0, 9), (0, 9)))
>>> nine.text, votes_of((0, 3, 0, 4, 2, 0)).text
('votes 9 5 4 6 0-9 0-9 2', 'votes 9 5 4 6 3 4 2')

>>> from toldcounts.profiles import first_numbers, first_profile, last_numbers, order_numbers, profiles_number
>>> first_profile(nine), profiles_number(nine), first_profile(open_nine), profiles_number(open_nine)
((0, 3, 0, 4, 2, 0), 1, (0, 0, 3, 1, 5, 0), 10)
>>> order_numbers(open_nine, "abc"), first_numbers(open_nine, "c"), last_numbers(open_nine, "a")
((0, 1, 2, 3), (2, 3, 4, 5), (1, 2, 3, 4))

>>> from toldcounts.rules import can_win, surely_wins, winners
>>> ours = (0, 3, 0, 4, 2, 0)
>>> [winners(ours, "firsts"), winners(ours, "lasts"), winners(ours, "points"), winners(ours, "pairs")]
['b', 'c', 'c', 'c']
>>> can_win(open_nine, "a", "firsts"), surely_wins(open_nine, "a", "firsts"), surely_wins(open_nine, "c", "pairs")
(True, False, True)

>>> from toldcounts.things import data_number, first_data, has_data, place_range, read_thing, thing_text
>>> [has_data(land), data_number(land), first_data(grid), place_range(hall, (0, 1)), place_range(few, 2), place_range(ones, (0, 0, 0)), read_thing(thing_text(few)) == few]
[True, 10, ((0, 3), (1, 1)), (0, 3), (1, 2), (0, 1), True]

>>> from toldcounts.wishes import does_hold, is_wish, suits
>>> [is_wish(("fewer", 0)), suits(land, ("value", "coast", (3, 5))), suits(land, ("value", (0, 0), (0, 1))), does_hold(land, ("value", "coast", (3, 5))), does_hold(land, ("lone",)), does_hold(grid, ("fewer", 3)), does_hold(few, ("fits",))]
[False, True, False, True, False, True, True]

>>> from toldcounts.desks import Desk
>>> desk = Desk(hall)
>>> desk.tell(("cell", 0, 0), (2, 2))
>>> [desk.sure(), desk.ends(("cell", 0, 1)), desk.ends(("row", "all")), len(desk), desk.tale]
[((0, 0), (1, 0)), (0, 2), (4, 6), 1, ((('cell', 0, 0), (2, 2)),)]
>>> desk.undo()
>>> [len(desk), desk.now == hall]
[0, True]

>>> from toldcounts.shelves import Shelf, played
>>> shelf = Shelf()
>>> shelf.put("land", land)
>>> shelf.wish("land", ("value", "coast", (3, 5)))
>>> shelf.put("hall", hall)
>>> [shelf.names, shelf.wishes, "hall" in shelf, len(shelf), shelf.log[1], played(shelf.log).thing("land") == land]
[('hall', 'land'), (('land', ('value', 'coast', (3, 5))),), True, 2, ('wish', 'land', ('value', 'coast', (3, 5))), True]

>>> from toldcounts.consoles import Console
>>> console = Console(Desk(hall))
>>> [console.say("number"), console.say("ends cell 0 1"), console.say("tell cell 0 0 2"), console.say("number"), console.say("first"), console.say("sure"), console.say("told")]
['15', '0-3', 'told', '7', '2 0/1 1', '2', '1']
>>> [console.say("undo"), console.say("undo"), console.say("tell row all 9"), console.say("ends row x"), console.say("hello")]
['undone', 'NothingToUndo', 'InvalidStretch', 'InvalidTold', 'no such line']

>>> from toldcounts.checker import accepts
>>> [accepts(("count", land.text), (11, 7, 4, 5, 2)), accepts(("count", land.text), [11, 7, 4, 5, 2]), accepts(("no filling", crowded.text), ((), ("both",), True)), accepts(("people", halves.text, 4), (2, 2)), accepts(("people", halves.text, 4), (1, 3)), accepts(("scores", few.text), (2, 2, 5)), accepts("land", None)]
[True, False, True, True, False, True, False]

>>> from toldcounts.certificates import certify_area, certify_cell, certify_people
>>> claim, paper = certify_area(land, "all")
>>> [claim[2:], paper[2:], accepts(claim, paper), certify_people(halves, 3), accepts(*certify_cell(hall, (0, 1)))]
[('all', 10, 12), ((), ()), True, None, True]
'''


class Examples(unittest.TestCase):
    def test_examples(self):
        self.check(EXAMPLES)

    def test_readme(self):
        self.check(README.read_text(encoding="utf-8").replace("```", ""))

    def check(self, text):
        test = doctest.DocTestParser().get_doctest(text, {}, "examples", None, None)
        told = []
        result = doctest.DocTestRunner(verbose=False).run(test, out=told.append)
        self.assertEqual(result.failed, 0, "".join(told))
        self.assertEqual(result.attempted, text.count(">>> "))


if __name__ == "__main__":
    unittest.main()
