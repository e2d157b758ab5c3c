"""Turns and islands of boxes ([24])."""

import itertools
import unittest

from support import APART, ONES, STRANGE, THIRTEEN, TWELVE, all_boxes, faces_around, many_faces
from toldcounts.errors import InvalidBox, NotFaces, TooMany
from toldcounts.faces import Faces
from toldcounts.islands import islands, turns_of

SQUARES = Faces(((1, 1, 1),) * 3, ((1, 1, 1),) * 3, ((1, 1, 1),) * 3)
STUCK = (((1, 0, 0), (0, 1, 0), (0, 0, 1)), ((0, 1, 0), (0, 0, 1), (1, 0, 0)))
FIRST, LAST = (((0, 1), (1, 0)), ((1, 0), (0, 1))), (((1, 0), (0, 1)), ((0, 1), (1, 0)))


def is_turn(box, other):
    """By the definition: eight spots with two of each index, changed by 1, neighbours the other way."""
    spots = list(itertools.product(range(len(box)), range(len(box[0])), range(len(box[0][0]))))
    changes = {(i, j, k): other[i][j][k] - box[i][j][k] for i, j, k in spots if other[i][j][k] != box[i][j][k]}
    if len(changes) != 8 or any(abs(change) != 1 for change in changes.values()):
        return False
    if any(len({spot[at] for spot in changes}) != 2 for at in range(3)):
        return False
    return all(changes[one] == -changes[two] for one in changes for two in changes
               if sum(a != b for a, b in zip(one, two)) == 1)


def islands_of(boxes):
    """The islands, by joining boxes that turns lead between."""
    mark = {box: box for box in boxes}
    for one, other in itertools.combinations(boxes, 2):
        if is_turn(one, other) and mark[one] != mark[other]:
            old, new = max(mark[one], mark[other]), min(mark[one], mark[other])
            mark = {box: new if at == old else at for box, at in mark.items()}
    return tuple((first, list(mark.values()).count(first)) for first in sorted(set(mark.values())))


class Small(unittest.TestCase):
    def test_turns_and_islands(self):
        turns, apart = 0, 0
        for faces in many_faces(261, 250, most=12) + [SQUARES, ONES, faces_around(STUCK)]:
            boxes = all_boxes(faces)
            for box in boxes:
                right = tuple(other for other in boxes if is_turn(box, other))
                turns += len(right)
                self.assertEqual(turns_of(faces, box), right, faces.text)
            found = islands_of(boxes)
            apart += len(found) > 1
            self.assertEqual(islands(faces), found, faces.text)
        self.assertGreater(turns, 100)
        self.assertGreater(apart, 0)


class Edges(unittest.TestCase):
    def test_no_turn_leads_on(self):
        faces = faces_around(STUCK)
        boxes = all_boxes(faces)
        self.assertEqual(len(boxes), 2)
        self.assertEqual([turns_of(faces, box) for box in boxes], [(), ()])
        self.assertEqual(islands(faces), ((boxes[0], 1), (boxes[1], 1)))
        for faces in (TWELVE, Faces(((1,),), ((1,),), ((1,),)), faces_around((((1, 2), (0, 1)),))):
            box = all_boxes(faces)[0]
            self.assertEqual((turns_of(faces, box), islands(faces)), ((), ((box, len(all_boxes(faces))),)))

    def test_islands_add_up(self):
        found = islands(SQUARES)
        self.assertEqual(sum(many for _, many in found), 12)
        self.assertEqual(list(found), sorted(found))
        self.assertEqual(islands(APART), ())

    def test_by_name(self):
        self.assertEqual((turns_of(faces=ONES, box=FIRST), turns_of(faces=ONES, box=LAST)), ((LAST,), (FIRST,)))
        self.assertEqual(islands(faces=ONES), ((FIRST, 2),))


class Wrong(unittest.TestCase):
    def test_faces(self):
        for call in (islands, lambda faces: turns_of(faces, None)):
            for value in STRANGE + (ONES.text, FIRST):
                with self.assertRaises(NotFaces) as caught:
                    call(value)
                self.assertIs(caught.exception.given, value)
            with self.assertRaises(TooMany) as caught:
                call(THIRTEEN)
            self.assertEqual(caught.exception.given, 13)

    def test_boxes_that_are_none(self):
        for value in STRANGE + ((), FIRST[:1], list(FIRST), (FIRST[0], FIRST[0]), (((0, True), (1, 0)), FIRST[1]), STUCK,
                                (((-1, 2), (2, -1)), ((2, -1), (-1, 2)))):
            for faces in (ONES, APART):
                with self.assertRaises(InvalidBox) as caught:
                    turns_of(faces, value)
                self.assertIs(caught.exception.given, value)
        with self.assertRaises(InvalidBox):
            turns_of(APART, FIRST)


if __name__ == "__main__":
    unittest.main()
