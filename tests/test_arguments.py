"""What all calls have in common ([3] to [5]): arguments of any kind, the first of several wrong ones, names."""

import inspect
import itertools
import unittest

from support import ALONE, CROWDED, FEW, GRID, HALL, LAND, ONES, POOR, SEEN, STRANGE, TOWN
from support_polls import HALVES, NINE, OPEN_NINE
from toldcounts import (areacounts, areanumbers, areapages, arearanges, arearoundings, areas, boxes, boxvalues,
                        certificates, checker, crosses, crossnumbers, crossranges, crossroundings, errors, faces, fillings,
                        firsts, islands, pages, pollpeople, polls, profiles, reportdata, reports, reportvalues, rules,
                        scores, stretches, things, votes, ways, wishes)

FILLING, OTHER = ((1, 2), (1, 0)), ((2, 0), (1, 1))
PAGE = pages.Page(HALL, FILLING, ((0, 0), (1, 1)))
WIDE_PAGE = pages.Page(crosses.table_cross((5, 4), (3, 6)), ((2, 3), (1, 3)), ((0, 0), (0, 1), (1, 0), (1, 1)))
BOX = (((0, 1), (1, 0)), ((1, 0), (0, 1)))
GOOD = {"areas": TOWN, "count": SEEN, "hidden": ("east", "mid"), "some": ("mid",), "name": "east", "width": 2,
        "base": 5, "index": 3, "cross": HALL, "cell": (0, 1), "stretch": (0, 5), "other_stretch": (3, 9),
        "filling": FILLING, "other": OTHER, "page": PAGE, "people": 3, "scale": (1, 5), "total": 9, "squares": 29,
        "mean": 3, "places": 1, "most": 40, "report": FEW, "score": 2, "scores": (2, 2, 5), "faces": ONES, "box": BOX,
        "spot": (0, 0, 1), "other_spot": (1, 1, 0), "front": ((1, 2), (1, 1)), "side": ((2, 1), (1, 1)),
        "top": ((1, 1), (2, 1)), "part": reports.Report(2, (1, 5), ()),
        "poll": HALVES, "polls": (HALVES, polls.Poll(0, (33, 67))), "shares": (50, 500), "share": 33, "votes": OPEN_NINE,
        "pairs": (5, 4, 6), "firsts": ((0, 9), (0, 9), (2, 2)), "profile": (0, 3, 0, 4, 2, 0), "order": "bca",
        "letter": "b", "rule": "points", "thing": LAND, "place": "coast", "wish": ("value", "coast", (3, 5)),
        "claim": ("filling", HALL.text), "paper": FILLING}
ERRORS = {"areas": "NotAreas", "count": "InvalidCount", "hidden": "InvalidNames", "some": "InvalidNames",
          "name": "UnknownName", "width": "InvalidNumber", "base": "InvalidNumber", "index": "InvalidIndex",
          "cross": "NotACross", "cell": "InvalidCell", "stretch": "InvalidStretch", "other_stretch": "InvalidStretch",
          "lines": "InvalidLines", "text": "InvalidText", "what": "InvalidTold", "cells": "InvalidCells",
          "row_sums": "InvalidCount", "column_sums": "InvalidCount", "numbers": "InvalidCount",
          "filling": "InvalidFilling", "other": "InvalidFilling", "page": "NotAPage", "people": "InvalidPeople",
          "scale": "InvalidScale", "total": "InvalidNumber", "squares": "InvalidNumber", "mean": "InvalidNumber",
          "places": "InvalidPlaces", "most": "InvalidNumber", "facts": "InvalidFacts", "fact": "InvalidFact",
          "report": "NotAReport", "part": "NotAReport", "score": "InvalidNumber", "scores": "InvalidScores",
          "faces": "NotFaces", "box": "InvalidBox", "spot": "InvalidSpot", "other_spot": "InvalidSpot",
          "front": "InvalidFace", "side": "InvalidFace", "top": "InvalidFace",
          "poll": "NotAPoll", "polls": "InvalidPolls", "shares": "InvalidShares", "share": "InvalidShare",
          "counts": "InvalidCount", "votes": "NotVotes", "pairs": "InvalidPairs", "firsts": "InvalidFirsts",
          "profile": "InvalidProfile", "order": "InvalidOrder", "letter": "InvalidName", "rule": "InvalidRule",
          "thing": "NotAThing", "place": "InvalidPlace", "wish": "InvalidWish"}
# Parameters for which no error is told.
FREE = ("value", "claim", "paper")
# Each call with the names of its parameters in their order; with values where others than those above are right,
# and errors where others than those above are told. What has no error may have any value.
CALLS = (
    (stretches.stretch_text, "stretch", {}, {}),
    (stretches.read_stretch, "text", {"text": "3-8"}, {}),
    (stretches.in_both, "stretch other_stretch", {}, {}),
    (areas.Areas, "lines", {"lines": LAND.lines}, {}),
    (areas.Areas.told, "text", {"text": LAND.text}, {}),
    (LAND.stretch, "name", {"name": "south"}, {}),
    (LAND.inner, "name", {"name": "all"}, {}),
    (LAND.changed, "name stretch", {"name": "hills"}, {}),
    (areacounts.is_count, "areas value", {"value": SEEN}, {}),
    (areacounts.first_count, "areas", {}, {}),
    (areacounts.last_count, "areas", {}, {}),
    (areacounts.count_by_leaves, "areas numbers", {"numbers": (1, 2, 3)}, {}),
    (areacounts.area_bar, "areas", {}, {}),
    (areacounts.is_area_bar, "areas value", {"areas": POOR, "value": ("less", "all", ("north", "south"))}, {}),
    (arearanges.area_range, "areas name", {}, {}),
    (arearanges.area_ranges, "areas", {}, {}),
    (arearanges.tight_areas, "areas", {}, {}),
    (arearanges.needless_lines, "areas", {}, {}),
    (areanumbers.counts_number, "areas", {}, {}),
    (areanumbers.count_at, "areas index", {}, {}),
    (areanumbers.index_of_count, "areas count", {}, {}),
    (areanumbers.area_numbers, "areas name", {}, {}),
    (areapages.area_guess, "areas count hidden name", {}, {}),
    (areapages.worked_out_areas, "areas count hidden", {}, {}),
    (areapages.is_safe_area, "areas count hidden name width", {}, {}),
    (areapages.least_area_covers, "areas count hidden some width", {}, {}),
    (arearoundings.is_area_rounding, "areas count base value", {"value": (20, 5, 10, 5)}, {}),
    (arearoundings.first_area_rounding, "areas count base", {}, {}),
    (arearoundings.area_roundings_number, "areas count base", {}, {}),
    (arearoundings.either_way_areas, "areas count base", {}, {}),
    (arearoundings.least_distance, "areas count base", {}, {}),
    (arearoundings.nearest_area_rounding, "areas count base", {}, {}),
    (crosses.Cross, "rows columns cells", {"rows": HALL.rows, "columns": HALL.columns, "cells": HALL.cells},
     {"rows": "NotAreas", "columns": "NotAreas"}),
    (crosses.Cross.told, "text", {"text": HALL.text}, {}),
    (HALL.stretch, "what", {"what": ("row", "day")}, {}),
    (HALL.changed, "what stretch", {"what": ("cell", 1, 1)}, {}),
    (crosses.turned, "cross", {}, {}),
    (crosses.table_cross, "row_sums column_sums", {"row_sums": (3, 2), "column_sums": (1, 4)}, {}),
    (fillings.is_filling, "cross value", {"value": FILLING}, {}),
    (fillings.a_filling, "cross", {}, {}),
    (fillings.cross_bar, "cross", {"cross": CROWDED}, {}),
    (fillings.is_cross_bar, "cross value", {"cross": CROWDED, "value": ((), ("both",), True)}, {}),
    (crossranges.cell_range, "cross cell", {}, {}),
    (crossranges.row_range, "cross name", {"name": "day"}, {}),
    (crossranges.column_range, "cross name", {"name": "old"}, {}),
    (crossranges.block_range, "cross rows columns", {"rows": (0, 1), "columns": (1,)},
     {"rows": "InvalidCells", "columns": "InvalidCells"}),
    (crossranges.sure_cells, "cross", {}, {}),
    (crossranges.tight_cross, "cross", {}, {}),
    (crossranges.needless_tolds, "cross", {}, {}),
    (firsts.first_filling, "cross", {}, {}),
    (firsts.last_filling, "cross", {}, {}),
    (firsts.next_filling, "cross filling", {}, {}),
    (crossnumbers.fillings_number, "cross", {}, {}),
    (crossnumbers.filling_at, "cross index", {}, {}),
    (crossnumbers.index_of_filling, "cross filling", {}, {}),
    (crossnumbers.cell_numbers, "cross cell", {}, {}),
    (ways.is_step, "cross value", {"value": (((0, 0),), ((0, 1),))}, {}),
    (ways.way, "cross filling other", {}, {}),
    (ways.is_way, "cross filling other value", {"value": ways.way(HALL, FILLING, OTHER)}, {}),
    (ways.is_corner, "cross filling", {}, {}),
    (ways.a_corner, "cross", {}, {}),
    (ways.free_step, "cross filling", {}, {}),
    (pages.Page, "cross filling hidden", {"hidden": ((0, 0), (1, 1))}, {"hidden": "InvalidCells"}),
    (pages.Page.told, "text", {"text": PAGE.text}, {}),
    (pages.known, "page", {}, {}),
    (pages.guess, "page cell", {}, {}),
    (pages.guesses, "page", {}, {}),
    (pages.worked_out, "page", {}, {}),
    (pages.is_safe, "page cell width", {}, {}),
    (pages.least_covers, "page some width", {"some": ((0, 1),)}, {"some": "InvalidCells"}),
    (crossroundings.rounding_cross, "cross filling base", {}, {}),
    (crossroundings.is_rounding, "cross filling base value", {"value": ((0, 0), (5, 0))}, {}),
    (crossroundings.first_rounding, "cross filling base", {}, {}),
    (crossroundings.either_way_cells, "cross filling base", {}, {}),
    (scores.told_mean, "people total places", {}, {}),
    (scores.told_spread, "people total squares places", {}, {}),
    (scores.totals_for, "people scale mean places", {}, {}),
    (scores.people_for_mean, "scale mean places most", {}, {}),
    (scores.squares_for, "people scale total", {}, {}),
    (reports.Report, "people scale facts", {"facts": FEW.facts}, {}),
    (reports.Report.told, "text", {"text": FEW.text}, {}),
    (FEW.more, "fact", {"fact": ("least", 1)}, {}),
    (FEW.without, "index", {"index": 1}, {}),
    (reportdata.does_fit, "report value", {"value": (2, 2, 5)}, {}),
    (reportdata.first_scores, "report", {}, {}),
    (reportdata.last_scores, "report", {}, {}),
    (reportdata.scores_number, "report", {}, {}),
    (reportdata.scores_at, "report index", {"index": 1}, {}),
    (reportdata.index_of_scores, "report scores", {}, {}),
    (reportvalues.holders, "report score", {}, {}),
    (reportvalues.totals, "report", {}, {}),
    (reportvalues.squares, "report", {}, {}),
    (reportvalues.middles, "report", {}, {}),
    (reportvalues.lowest, "report", {}, {}),
    (reportvalues.highest, "report", {}, {}),
    (reportvalues.needless_facts, "report", {}, {}),
    (reportvalues.least_clashes, "report", {}, {}),
    (reportvalues.rest_totals, "report part", {}, {}),
    (faces.Faces, "front side top", {}, {}),
    (faces.Faces.told, "text", {"text": ONES.text}, {}),
    (faces.agree, "faces", {}, {}),
    (faces.box_faces, "box", {}, {}),
    (faces.tipped, "faces", {}, {}),
    (boxes.is_box, "faces value", {"value": BOX}, {}),
    (boxes.first_box, "faces", {}, {}),
    (boxes.last_box, "faces", {}, {}),
    (boxes.boxes_number, "faces", {}, {}),
    (boxes.box_at, "faces index", {"index": 1}, {}),
    (boxes.index_of_box, "faces box", {}, {}),
    (boxvalues.spot_values, "faces spot", {}, {}),
    (boxvalues.pair_values, "faces spot other_spot", {}, {}),
    (boxvalues.sure_spots, "faces", {}, {}),
    (boxvalues.gap_pairs, "faces", {}, {}),
    (boxvalues.slab_boxes, "front side", {}, {}),
    (boxvalues.tops_number, "front side", {}, {}),
    (islands.turns_of, "faces box", {}, {}),
    (islands.islands, "faces", {}, {}),
    (polls.Poll, "places shares", {}, {}),
    (polls.Poll.told, "text", {"text": HALVES.text}, {}),
    (polls.poll_of, "counts places", {"counts": (1, 2)}, {}),
    (polls.count_stretch, "share people places", {}, {}),
    (pollpeople.does_fit_people, "poll people", {}, {}),
    (pollpeople.first_counts, "poll people", {"people": 4}, {}),
    (pollpeople.count_ranges, "poll people", {"people": 4}, {}),
    (pollpeople.pollings_number, "poll people", {"people": 4}, {}),
    (pollpeople.people_for, "poll most", {}, {}),
    (pollpeople.from_on, "poll", {}, {}),
    (pollpeople.least_people, "poll", {}, {}),
    (pollpeople.same_people, "polls most", {}, {}),
    (votes.Votes, "people pairs firsts", {}, {}),
    (votes.Votes.told, "text", {"text": NINE.text}, {}),
    (votes.votes_of, "profile", {}, {}),
    (profiles.is_profile, "votes value", {"value": (0, 3, 0, 4, 2, 0)}, {}),
    (profiles.first_profile, "votes", {}, {}),
    (profiles.profiles_number, "votes", {}, {}),
    (profiles.order_numbers, "votes order", {}, {}),
    (profiles.first_numbers, "votes letter", {}, {}),
    (profiles.last_numbers, "votes letter", {}, {}),
    (rules.winners, "profile rule", {}, {}),
    (rules.can_win, "votes letter rule", {}, {}),
    (rules.surely_wins, "votes letter rule", {}, {}),
    (things.has_data, "thing", {}, {}),
    (things.data_number, "thing", {}, {}),
    (things.first_data, "thing", {}, {}),
    (things.place_range, "thing place", {}, {}),
    (things.thing_text, "thing", {}, {}),
    (things.read_thing, "text", {"text": FEW.text}, {}),
    (wishes.is_wish, "value", {"value": ("fits",)}, {}),
    (wishes.suits, "thing wish", {}, {}),
    (wishes.does_hold, "thing wish", {}, {}),
    (checker.accepts, "claim paper", {}, {}),
    (certificates.certify_count, "areas", {}, {}),
    (certificates.certify_area, "areas name", {}, {}),
    (certificates.certify_filling, "cross", {}, {}),
    (certificates.certify_cell, "cross cell", {}, {}),
    (certificates.certify_way, "cross filling other", {}, {}),
    (certificates.certify_safe, "page cell width", {"page": WIDE_PAGE, "cell": (0, 0)}, {}),
    (certificates.certify_scores, "report", {}, {}),
    (certificates.certify_profile, "votes", {}, {}),
    (certificates.certify_box, "faces", {}, {}),
    (certificates.certify_people, "poll people", {"people": 4}, {}),
)
MODULES = (stretches, areas, areacounts, arearanges, areanumbers, areapages, arearoundings, crosses, fillings,
           crossranges, firsts, crossnumbers, ways, pages, crossroundings, scores, reports, reportdata, reportvalues,
           faces, boxes, boxvalues, islands, polls, pollpeople, votes, profiles, rules, things, wishes,
           checker, certificates)
CLASSES = (areas.Areas, crosses.Cross, pages.Page, reports.Report, faces.Faces, polls.Poll, votes.Votes)
BASES = {"NotPossible": ("NoData",), "WrongName": ("UnknownName",)}


ANY_PEOPLE = (scores.told_mean, scores.told_spread, polls.count_stretch, pollpeople.does_fit_people,
              pollpeople.first_counts, pollpeople.count_ranges, pollpeople.pollings_number, certificates.certify_people)


def is_right(call, name, value):
    """Whether a strange value is right for this parameter."""
    if name in ("hidden", "some"):
        return isinstance(value, tuple) and len(value) == 0
    if name == "counts":
        return isinstance(value, tuple) and len(value) == 2 and value[0].__class__ is int and value[0] > 0
    if not isinstance(value, int) or value < 10 ** 9:
        return False
    if name == "people":
        return call in ANY_PEOPLE
    return name in ("width", "total", "squares", "mean") and (call, name) != (scores.told_spread, "total")


def cases():
    for call, names, values, kinds in CALLS:
        names = names.split(" ")
        yield call, names, [values.get(name, GOOD.get(name)) for name in names], {**ERRORS, **kinds}


class Calls(unittest.TestCase):
    def test_each_function_and_class_of_the_modules_is_there(self):
        told = {call for call, _, _, _ in CALLS}
        for module in MODULES:
            for name, value in vars(module).items():
                if getattr(value, "__module__", None) == module.__name__ and name in DOCUMENT:
                    self.assertIn(value, told, name)
        self.assertEqual(sum(name in vars(module) for name in DOCUMENT for module in MODULES
                             if getattr(vars(module).get(name), "__module__", None) == module.__name__), len(DOCUMENT))

    def test_names_and_order_of_parameters(self):
        for call, names, _, _ in cases():
            self.assertEqual(list(inspect.signature(call).parameters), names)

    def test_by_position_and_by_name(self):
        for call, names, values, _ in cases():
            told = call(*values)
            self.assertEqual(call(*values), told)
            self.assertEqual(call(**dict(zip(names, values))), told)
            self.assertEqual(call(**dict(reversed(list(zip(names, values))))), told)
            self.assertEqual(call(values[0], **dict(zip(names[1:], values[1:]))), told)

    def test_values_of_any_kind(self):
        for call, names, values, kinds in cases():
            for at, name in enumerate(names):
                for value in STRANGE:
                    if name in FREE:
                        self.assertIs(call(*values[:at], value, *values[at + 1:]), False)
                    elif not is_right(call, name, value) and (call, name) != (scores.told_spread, "total"):
                        self.refuse(call, [*values[:at], value, *values[at + 1:]], kinds[name], value)

    def test_the_first_of_several_wrong_ones(self):
        for call, names, values, kinds in cases():
            places = [at for at, name in enumerate(names) if name not in FREE]
            for many in range(2, len(places) + 1):
                for wrong in itertools.combinations(places, many):
                    told = list(values)
                    for at in wrong:
                        told[at] = object()
                    self.refuse(call, told, kinds[names[wrong[0]]], told[wrong[0]])

    def refuse(self, call, values, kind, value):
        with self.assertRaises(getattr(errors, kind)) as caught:
            call(*values)
        error = caught.exception
        self.assertEqual(error.__class__.__name__, kind)
        base = [name for name, kinds in BASES.items() if kind in kinds] or ["WrongValue"]
        self.assertEqual([each.__name__ for each in error.__class__.__bases__], base)
        if "given" in vars(error):
            self.assertIs(error.given, value)
        elif not isinstance(value, tuple):
            self.assertIs(error.index, None)
        else:
            self.assertIn(error.index, (None, 0, 1, 2))

    def test_what_is_told_is_made_of_tuples(self):
        for call, _, values, _ in cases():
            self.check(call(*values))

    def check(self, value):
        if isinstance(value, tuple):
            for part in value:
                self.check(part)
        else:
            self.assertTrue(value is None or isinstance(value, (bool, int, str, *CLASSES)), value)


DOCUMENT = """stretch_text read_stretch in_both Areas is_count first_count last_count count_by_leaves area_bar is_area_bar
area_range area_ranges tight_areas needless_lines counts_number count_at index_of_count area_numbers area_guess
worked_out_areas is_safe_area least_area_covers is_area_rounding first_area_rounding area_roundings_number
either_way_areas least_distance nearest_area_rounding Cross turned table_cross is_filling a_filling cross_bar
is_cross_bar cell_range row_range column_range block_range sure_cells tight_cross needless_tolds
first_filling last_filling next_filling fillings_number filling_at index_of_filling cell_numbers is_step way is_way
is_corner a_corner free_step Page known guess guesses worked_out is_safe least_covers rounding_cross is_rounding
first_rounding either_way_cells told_mean told_spread totals_for people_for_mean squares_for Report
does_fit first_scores last_scores scores_number scores_at index_of_scores holders totals squares middles lowest highest
needless_facts least_clashes rest_totals Faces agree box_faces tipped is_box first_box last_box boxes_number box_at
index_of_box spot_values pair_values sure_spots gap_pairs slab_boxes tops_number turns_of islands Poll poll_of count_stretch
does_fit_people first_counts count_ranges pollings_number people_for from_on least_people same_people Votes votes_of
is_profile first_profile profiles_number order_numbers first_numbers last_numbers winners can_win surely_wins has_data
data_number first_data place_range thing_text read_thing is_wish suits does_hold accepts
certify_count certify_area certify_filling certify_cell certify_way certify_safe certify_scores certify_profile certify_box
certify_people""".split()


class Kinds(unittest.TestCase):
    def test_another_class_of_the_package_is_none(self):
        for call, names, values, kinds in cases():
            for at, name in enumerate(names):
                if name in ("areas", "cross", "page", "report", "part", "faces", "poll", "votes", "thing"):
                    other = {"areas": GRID, "poll": NINE, "votes": HALVES, "thing": PAGE}.get(name, ALONE)
                    self.refuse(call, [*values[:at], other, *values[at + 1:]], kinds[name], other)

    refuse = Calls.refuse


if __name__ == "__main__":
    unittest.main()
