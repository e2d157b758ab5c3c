"""Boxes for faces ([22])."""

import itertools
import unittest

from support import APART, ONES, STRANGE, THIRTEEN, TWELVE, all_boxes, faces_around, many_faces
from toldcounts.boxes import box_at, boxes_number, first_box, index_of_box, is_box, last_box
from toldcounts.errors import InvalidBox, InvalidIndex, NotFaces, TooMany
from toldcounts.faces import Faces

SAMPLES = many_faces(241, 250, most=12)
FIRST, LAST = (((0, 1), (1, 0)), ((1, 0), (0, 1))), (((1, 0), (0, 1)), ((0, 1), (1, 0)))


class Small(unittest.TestCase):
    def test_all_boxes(self):
        many = {0: 0, 1: 0, 2: 0}
        for faces in SAMPLES:
            boxes = all_boxes(faces)
            many[min(2, len(boxes))] += 1
            self.assertEqual(boxes_number(faces), len(boxes), faces.text)
            self.assertEqual(first_box(faces), (boxes + [None])[0])
            self.assertEqual(last_box(faces), ([None] + boxes)[-1])
            for index, box in enumerate(boxes):
                self.assertEqual(box_at(faces, index), box)
                self.assertEqual(index_of_box(faces, box), index)
                self.assertIs(is_box(faces, box), True)
            for index in (len(boxes), len(boxes) + 5):
                with self.assertRaises(InvalidIndex) as caught:
                    box_at(faces, index)
                self.assertEqual(caught.exception.given, index)
        self.assertGreater(min(many.values()), 30)

    def test_is_box_for_all_small_boxes(self):
        for faces in (ONES, APART, faces_around(FIRST), faces_around((((2, 0), (0, 1)), ((0, 1), (1, 0)))),
                      Faces(((1, 1), (1, 1)), ((1, 1), (1, 1)), ((2, 0), (0, 2)))):
            boxes = all_boxes(faces)
            for numbers in itertools.product(range(-1, 3), repeat=8):
                rows = [numbers[at:at + 2] for at in range(0, 8, 2)]
                value = (tuple(rows[:2]), tuple(rows[2:]))
                self.assertIs(is_box(faces, value), value in boxes)


class Edges(unittest.TestCase):
    def test_one_number(self):
        for number in (0, 1, 12):
            faces = Faces(((number,),), ((number,),), ((number,),))
            self.assertEqual((boxes_number(faces), first_box(faces)), (1, (((number,),),)))
        self.assertEqual(boxes_number(Faces(((1,),), ((2,),), ((1,),))), 0)

    def test_three_by_three_numbers_a_side(self):
        squares = Faces(((1, 1, 1),) * 3, ((1, 1, 1),) * 3, ((1, 1, 1),) * 3)
        self.assertEqual(boxes_number(squares), 12)
        self.assertEqual(first_box(squares)[0], ((0, 0, 1), (0, 1, 0), (1, 0, 0)))
        self.assertEqual(last_box(squares)[0], ((1, 0, 0), (0, 1, 0), (0, 0, 1)))
        self.assertEqual([index_of_box(squares, box_at(squares, index)) for index in range(12)], list(range(12)))
        empty = Faces(((0, 0, 0),) * 3, ((0, 0, 0),) * 3, ((0, 0, 0),) * 3)
        self.assertEqual((boxes_number(empty), first_box(empty)), (1, (((0, 0, 0),) * 3,) * 3))

    def test_faces_without_a_box(self):
        for faces in (APART, Faces(((1,),), ((1,),), ((0,),)), Faces(((1, 1),), ((1,),), ((1,), (1,))),
                      Faces(((0, 0),), ((0,),), ((1,), (0,))), Faces(((0,),), ((0, 0),), ((0, 1),)),
                      Faces(((0, 0),), ((1,),), ((1,), (0,))), Faces(((1, 0),), ((0,),), ((1,), (0,)))):
            self.assertEqual((boxes_number(faces), first_box(faces), last_box(faces)), (0, None, None))
            with self.assertRaises(InvalidIndex):
                box_at(faces, 0)
            with self.assertRaises(InvalidBox):
                index_of_box(faces, FIRST)

    def test_by_name(self):
        self.assertEqual((first_box(faces=ONES), last_box(faces=ONES), boxes_number(faces=ONES)), (FIRST, LAST, 2))
        self.assertEqual((box_at(faces=ONES, index=1), index_of_box(faces=ONES, box=LAST)), (LAST, 1))
        self.assertIs(is_box(faces=ONES, value=LAST), True)


class Wrong(unittest.TestCase):
    CALLS = (first_box, last_box, boxes_number, lambda faces: is_box(faces, None), lambda faces: box_at(faces, None),
             lambda faces: index_of_box(faces, None))

    def test_too_many(self):
        self.assertEqual(boxes_number(TWELVE), 1)
        for faces, number in ((THIRTEEN, 13), (Faces(((12, 12, 12),) * 3, ((0,),) * 3, ((0,),) * 3), 108),
                              (Faces(((7, 6),), ((0,),), ((0,), (0,))), 13)):
            for call in self.CALLS:
                with self.assertRaises(TooMany) as caught:
                    call(faces)
                self.assertEqual(caught.exception.given, number)
        # The front's numbers count, not those of the others.
        self.assertEqual(boxes_number(Faces(((0,),), ((12, 12),), ((12, 12),))), 0)

    def test_faces_and_indexes_that_are_none(self):
        for value in STRANGE + (ONES.text, ONES.front, FIRST):
            for call in self.CALLS:
                with self.assertRaises(NotFaces) as caught:
                    call(value)
                self.assertIs(caught.exception.given, value)
        for value in STRANGE + (2, "0", (0,), [0]):
            for faces in (ONES, APART):
                with self.assertRaises(InvalidIndex) as caught:
                    box_at(faces, value)
                self.assertIs(caught.exception.given, value)

    def test_what_is_no_box(self):
        self.assertIs(is_box(ONES, FIRST), True)
        for value in STRANGE + ((), FIRST[:1], FIRST + FIRST[:1], list(FIRST), (list(FIRST[0]), FIRST[1]),
                                (((0, 1), [1, 0]), FIRST[1]), (((0, 1),), FIRST[1]), (((0, 1), (1, 0), (0, 0)), FIRST[1]),
                                (((0, 1), (1,)), FIRST[1]), (((0, 1), (1, 0, 0)), FIRST[1]), (FIRST[0], FIRST[0]),
                                (((0, True), (1, 0)), FIRST[1]), (((False, 1), (1, 0)), FIRST[1]),
                                (((-1, 2), (2, -1)), ((2, -1), (-1, 2))), (((0, "1"), (1, 0)), FIRST[1]),
                                (((0, None), (1, 0)), FIRST[1]), (FIRST[0], None), (((1, 1), (1, 0)), FIRST[1])):
            for box in (value, (FIRST[0], value), ((FIRST[0][0], value), FIRST[1]), (((0, value), (1, 0)), FIRST[1])):
                self.assertIs(is_box(ONES, box), False)
                with self.assertRaises(InvalidBox) as caught:
                    index_of_box(ONES, box)
                self.assertIs(caught.exception.given, box)


if __name__ == "__main__":
    unittest.main()
