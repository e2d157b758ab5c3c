"""Values of spots, and boxes with two faces ([23], [24])."""

import itertools
import unittest

from support import APART, ONES, STRANGE, THIRTEEN, TWELVE, all_boxes, column_sums, faces_around, many_faces, rows_with
from toldcounts.boxvalues import gap_pairs, pair_values, slab_boxes, spot_values, sure_spots, tops_number
from toldcounts.errors import InvalidFace, InvalidSpot, NotFaces, TooMany
from toldcounts.faces import Faces

SAMPLES = many_faces(251, 150, most=12)
SQUARES = Faces(((1, 1, 1),) * 3, ((1, 1, 1),) * 3, ((1, 1, 1),) * 3)


def spots_of(faces):
    return list(itertools.product(*[range(edge) for edge in faces.edges]))


def at(box, spot):
    return box[spot[0]][spot[1]][spot[2]]


def slabs(front, side):
    """All tables that each table of a box with these faces can be."""
    found = []
    for front_row, side_row in zip(front, side):
        tables = itertools.product(*[rows_with(total, side_row) for total in front_row])
        found.append([table for table in tables if column_sums(table) == side_row])
    return found


class Small(unittest.TestCase):
    def test_values(self):
        for faces in SAMPLES:
            boxes = all_boxes(faces)
            values = {spot: sorted({at(box, spot) for box in boxes}) for spot in spots_of(faces)}
            for spot in spots_of(faces):
                self.assertEqual(spot_values(faces, spot), tuple(values[spot]), faces.text)
                # The document's own words: values have no gaps.
                self.assertEqual(values[spot], list(range(*(values[spot][0], values[spot][-1] + 1) if boxes else (0, 0))))
            self.assertEqual(sure_spots(faces), tuple(spot for spot in spots_of(faces) if len(values[spot]) == 1))

    def test_pairs(self):
        gaps = 0
        for faces in SAMPLES + [SQUARES, ONES]:
            boxes = all_boxes(faces)
            found = []
            for spot, other in itertools.product(spots_of(faces), repeat=2):
                sums = sorted({at(box, spot) + at(box, other) for box in boxes})
                if len(boxes) < 4:
                    self.assertEqual(pair_values(faces, spot, other), tuple(sums))
                if spot < other and sums and sums != list(range(sums[0], sums[-1] + 1)):
                    found.append((spot, other))
            gaps += len(found)
            self.assertEqual(gap_pairs(faces), tuple(found), faces.text)
        self.assertGreater(gaps, 100)

    def test_two_faces(self):
        more = 0
        for faces in SAMPLES:
            tables = slabs(faces.front, faces.side)
            boxes = list(itertools.product(*tables)) if sum(len(each) for each in tables) < 60 else None
            number = 1
            for each in tables:
                number *= len(each)
            self.assertEqual(slab_boxes(faces.front, faces.side), number)
            if boxes is not None and number < 5000:
                tops = {tuple(column_sums(rows) for rows in zip(*box)) for box in boxes}
                more += len(tops) < number
                self.assertEqual(tops_number(faces.front, faces.side), len(tops))
        self.assertGreater(more, 15)


class Edges(unittest.TestCase):
    def test_a_spot_twice(self):
        self.assertEqual(pair_values(ONES, (0, 0, 0), (0, 0, 0)), (0, 2))
        self.assertEqual(pair_values(TWELVE, (0, 0, 0), (0, 0, 0)), (8,))
        self.assertEqual(pair_values(SQUARES, (2, 2, 2), (2, 2, 2)), (0, 2))

    def test_no_boxes(self):
        self.assertEqual((spot_values(APART, (0, 1, 1)), pair_values(APART, (0, 0, 0), (1, 1, 1))), ((), ()))
        self.assertEqual((sure_spots(APART), gap_pairs(APART)), ((), ()))

    def test_one_number(self):
        one = Faces(((12,),), ((12,),), ((12,),))
        self.assertEqual((spot_values(one, (0, 0, 0)), pair_values(one, (0, 0, 0), (0, 0, 0))), ((12,), (24,)))
        self.assertEqual((sure_spots(one), gap_pairs(one)), (((0, 0, 0),), ()))
        self.assertEqual((slab_boxes(((12,),), ((12,),)), tops_number(((12,),), ((12,),))), (1, 1))

    def test_known_gaps(self):
        self.assertEqual(gap_pairs(ONES)[0], ((0, 0, 0), (0, 1, 1)))
        self.assertEqual(len(gap_pairs(ONES)), 12)
        self.assertEqual(sure_spots(faces_around((((2, 0),),))), ((0, 0, 0), (0, 0, 1)))

    def test_two_faces_that_do_not_go_together(self):
        for front, side in ((((1, 1),), ((1,),)), (((1,), (0,)), ((0,), (1,))), (((2, 2),), ((2, 1),)),
                            (((0, 0),), ((12, 12, 12),)), (((1, 1), (0, 0)), ((2,), (1,)))):
            self.assertEqual((slab_boxes(front, side), tops_number(front, side)), (0, 0))
        self.assertEqual((slab_boxes(((0, 0),), ((0,),)), tops_number(((0, 0),), ((0,),))), (1, 1))

    def test_many_boxes_with_two_faces(self):
        self.assertEqual((slab_boxes(((4, 4, 4),), ((4, 4, 4),)), tops_number(((4, 4, 4),), ((4, 4, 4),))), (120, 120))
        two = ((2, 2, 2), (2, 2, 2))
        self.assertEqual((slab_boxes(two, two), tops_number(two, two)), (441, 120))
        three = ((2, 1, 1), (1, 2, 1), (1, 1, 2))
        tables = slabs(three, three)
        tops = {tuple(column_sums(rows) for rows in zip(*box)) for box in itertools.product(*tables)}
        self.assertEqual((slab_boxes(three, three), tops_number(three, three)),
                         (len(tables[0]) * len(tables[1]) * len(tables[2]), len(tops)))

    def test_by_name(self):
        self.assertEqual(spot_values(faces=ONES, spot=(0, 0, 0)), (0, 1))
        self.assertEqual(pair_values(faces=ONES, spot=(0, 0, 0), other_spot=(0, 1, 1)), (0, 2))
        self.assertEqual((sure_spots(faces=ONES), len(gap_pairs(faces=ONES))), ((), 12))
        self.assertEqual(slab_boxes(front=((1, 1), (1, 1)), side=((1, 1), (1, 1))), 4)
        self.assertEqual(tops_number(front=((1, 1), (1, 1)), side=((1, 1), (1, 1))), 3)


class Wrong(unittest.TestCase):
    CALLS = (sure_spots, gap_pairs, lambda faces: spot_values(faces, None), lambda faces: pair_values(faces, None, None))

    def test_faces_that_are_none_or_too_many(self):
        for call in self.CALLS:
            for value in STRANGE + (ONES.text, ONES.front):
                with self.assertRaises(NotFaces) as caught:
                    call(value)
                self.assertIs(caught.exception.given, value)
            with self.assertRaises(TooMany) as caught:
                call(THIRTEEN)
            self.assertEqual(caught.exception.given, 13)
        self.assertEqual(sure_spots(TWELVE), tuple(spots_of(TWELVE)))

    def test_spots_that_are_none(self):
        for value in STRANGE + ((2, 0, 0), (0, 2, 0), (0, 0, 2), (0, 0), (0, 0, 0, 0), [0, 0, 0], (0, 0, -1), (0, True, 0),
                                (0, 0, None), "000", 0):
            for call in (lambda: spot_values(ONES, value), lambda: pair_values(ONES, value, None),
                         lambda: pair_values(ONES, (1, 1, 1), value), lambda: spot_values(APART, value)):
                with self.assertRaises(InvalidSpot) as caught:
                    call()
                self.assertIs(caught.exception.given, value)
        long = Faces(((0, 0, 0),), ((0, 0),), ((0, 0),) * 3)
        self.assertEqual(spot_values(long, (0, 2, 1)), (0,))
        for spot in ((1, 2, 1), (0, 3, 1), (0, 2, 2), (2, 0, 0), (0, 1, 2)):
            with self.assertRaises(InvalidSpot):
                spot_values(long, spot)

    def test_faces_of_two(self):
        good = ((1, 1), (1, 1))
        for call in (slab_boxes, tops_number):
            for value in STRANGE + ((), ((),), ((1, 2), (1,)), ((13,),), ((-1,),), [[1]], ((True,),), ((1,),) * 4):
                with self.assertRaises(InvalidFace) as caught:
                    call(value, None)
                self.assertIs(caught.exception.given, value)
                for front in (good, ((12, 12),)):
                    with self.assertRaises(InvalidFace) as caught:
                        call(front, value)
                    self.assertIs(caught.exception.given, value)
            for front in (good, ((12, 12), (0, 0))):
                for side in (((1,),), ((1,), (1,), (1,))):
                    with self.assertRaises(InvalidFace) as caught:
                        call(front, side)
                    self.assertIs(caught.exception.given, side)
            with self.assertRaises(TooMany) as caught:
                call(((5, 4, 4),), ((5, 4, 4),))
            self.assertEqual(caught.exception.given, 13)
            self.assertEqual(call(((4, 4, 4),), ((12, 0, 0),)), 1)


if __name__ == "__main__":
    unittest.main()
