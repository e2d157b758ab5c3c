"""Faces of boxes ([22], [23])."""

import itertools
import random
import unittest

from support import STRANGE, all_boxes, faces_around, many_faces, some_box
from toldcounts.errors import InvalidBox, InvalidFace, InvalidText, NotFaces
from toldcounts.faces import Faces, agree, box_faces, tipped

BOX = (((1, 0), (0, 2)), ((0, 1), (1, 0)))
FRONT, SIDE, TOP = ((1, 2), (1, 1)), ((1, 2), (1, 1)), ((1, 1), (1, 2))
GOOD = Faces(FRONT, SIDE, TOP)
ONE = Faces(((12,),), ((0,),), ((5,),))
LONG = Faces(((1, 2, 3),), ((4, 2),), ((1, 0), (1, 1), (2, 1)))
NO_FACES = STRANGE + ((), ((),), ((), ()), ((1, 2), (1,)), ((1, 2, 3, 0),), ((1,), (1,), (1,), (1,)), ((13,),), ((-1,),),
                      ((True,),), ((None,),), (("1",),), ([1, 2],), [[1, 2]], ((1, 2), [1, 2]), (1, 2), ((1, 2), 3),
                      ((1, 2), (1, 13)), ((1, 2), (1, 2, 3)), (((1,),),), "1 2", ((1, 0), (0, False)))


class TheClass(unittest.TestCase):
    def test_properties(self):
        self.assertEqual((GOOD.front, GOOD.side, GOOD.top), (FRONT, SIDE, TOP))
        self.assertEqual(GOOD.text, "front 1 2\nfront 1 1\nside 1 2\nside 1 1\ntop 1 1\ntop 1 2")
        self.assertEqual((str(GOOD), len(GOOD), GOOD.edges), (GOOD.text, 8, (2, 2, 2)))
        self.assertEqual((ONE.text, len(ONE), ONE.edges), ("front 12\nside 0\ntop 5", 1, (1, 1, 1)))
        self.assertEqual((LONG.edges, len(LONG)), ((1, 3, 2), 6))
        self.assertEqual(LONG.text, "front 1 2 3\nside 4 2\ntop 1 0\ntop 1 1\ntop 2 1")
        for name in ("front", "side", "top", "text", "edges"):
            with self.assertRaises(AttributeError):
                setattr(GOOD, name, None)

    def test_all_edges(self):
        for a, b, c in itertools.product((1, 2, 3), repeat=3):
            faces = Faces(((0,) * b,) * a, ((12,) * c,) * a, ((1,) * c,) * b)
            self.assertEqual((faces.edges, len(faces)), ((a, b, c), a * b * c))
            self.assertEqual(Faces.told(faces.text), faces)
            self.assertEqual(faces.text.count("\n"), 2 * a + b - 1)

    def test_equal(self):
        self.assertEqual(Faces(FRONT, SIDE, TOP), GOOD)
        self.assertFalse(Faces(FRONT, SIDE, TOP) != GOOD)
        for other in (Faces(SIDE, FRONT, ((1, 1), (1, 1))), ONE, LONG, GOOD.text, FRONT, None,
                      Faces(((1, 2), (1, 0)), SIDE, TOP), Faces(FRONT, ((0, 2), (1, 1)), TOP)):
            self.assertFalse(GOOD == other)
            self.assertTrue(GOOD != other)
        for value in STRANGE[:20]:
            self.assertIs(GOOD == value, False)
        self.assertNotEqual(Faces(((1,), (1,)), ((1,), (1,)), ((2,),)), Faces(((1, 1),), ((2,),), ((1,), (1,))))

    def test_texts(self):
        for faces in (GOOD, ONE, LONG, *many_faces(231, 60)):
            self.assertEqual(Faces.told(faces.text), faces)
            self.assertEqual(Faces.told(text=faces.text).top, faces.top)

    def test_texts_that_are_none(self):
        wrong = ["", "\n", "front", "front 1", "front 1\nside 1", "front 1\ntop 1", "side 1\ntop 1",
                 "front 1\nside 1\ntop 1\n", "\nfront 1\nside 1\ntop 1", "front 1\ntop 1\nside 1", "side 1\nfront 1\ntop 1",
                 "front 1\nside 1\ntop 1 ", "front  1\nside 1\ntop 1", "front 01\nside 1\ntop 1", "front 13\nside 1\ntop 1",
                 "front -1\nside 1\ntop 1", "front 1\nside 1\ntop 1 1", "front 1\nside 1\ntop 1\ntop 1",
                 "front 1\nfront 1\nside 1\ntop 1", "front 1 1\nside 1\ntop 1", "front 1\nside 1\ntop", "Front 1\nside 1\ntop 1",
                 "front 1 1 1 1\nside 1\ntop 1\ntop 1\ntop 1\ntop 1", "front 1\nside 1\ntop 1-1", "front 1\nside 1\n\ntop 1",
                 "front 1\nside 1\nback 1", "front 1\nside 1\ntop 1\nback 1", "front 1 side 1 top 1", "front 1\nside +1\ntop 1"]
        text, refused = GOOD.text, 0
        for at in range(len(text)):
            wrong += [text[:at] + "0" + text[at:], text[:at] + " " + text[at:], text[:at] + text[at + 1:]]
        lines = text.split("\n")
        wrong += ["\n".join(lines[:at] + lines[at + 1:]) for at in range(6)]
        for value in wrong + list(STRANGE):
            try:
                found = Faces.told(value)
            except InvalidText as error:
                self.assertIs(error.given, value)
                refused += 1
            else:
                self.assertEqual(found.text, value)
                self.assertNotIn(value, wrong[:29])
        self.assertGreater(refused, 180)

    def test_faces_that_are_none(self):
        for value in NO_FACES:
            for call in (lambda: Faces(value, None, None), lambda: Faces(FRONT, value, None),
                         lambda: Faces(FRONT, SIDE, value)):
                with self.assertRaises(InvalidFace) as caught:
                    call()
                self.assertIs(caught.exception.given, value)

    def test_faces_that_do_not_go_together(self):
        for value in (((1, 2),), ((1,),), ((1,), (1,), (1,))):
            with self.assertRaises(InvalidFace) as caught:
                Faces(FRONT, value, None)
            self.assertIs(caught.exception.given, value)
        for value in (((1, 2),), ((1,), (1,)), ((1, 2, 3), (1, 2, 3)), ((1, 2), (1, 2), (1, 2))):
            with self.assertRaises(InvalidFace) as caught:
                Faces(FRONT, SIDE, value)
            self.assertIs(caught.exception.given, value)
        self.assertEqual(Faces(FRONT, ((1,), (12,)), ((3,), (4,))).edges, (2, 2, 1))

    def test_by_name(self):
        self.assertEqual(Faces(front=FRONT, side=SIDE, top=TOP), GOOD)
        self.assertEqual((agree(faces=GOOD), box_faces(box=BOX)), (True, GOOD))
        self.assertEqual(tipped(faces=GOOD).text, "front 1 1\nfront 2 1\nside 1 1\nside 1 2\ntop 1 2\ntop 1 1")


class Functions(unittest.TestCase):
    def test_agree(self):
        many = {True: 0, False: 0}
        for faces in many_faces(232, 400):
            a, b, c = faces.edges
            rows = all(sum(faces.front[i]) == sum(faces.side[i]) for i in range(a))
            columns = all(sum(faces.front[i][j] for i in range(a)) == sum(faces.top[j]) for j in range(b))
            deep = all(sum(faces.side[i][k] for i in range(a)) == sum(faces.top[j][k] for j in range(b)) for k in range(c))
            many[rows and columns and deep] += 1
            self.assertIs(agree(faces), rows and columns and deep, faces.text)
            if all_boxes(faces):
                self.assertTrue(agree(faces))
        self.assertGreater(min(many.values()), 100)

    def test_each_of_the_three_sums(self):
        self.assertTrue(agree(Faces(((1, 1),), ((2,),), ((1,), (1,)))))
        self.assertFalse(agree(Faces(((1, 1),), ((1,),), ((1,), (1,)))))
        self.assertFalse(agree(Faces(((1, 1),), ((2,),), ((0,), (2,)))))
        self.assertFalse(agree(Faces(((2,),), ((1, 1),), ((2, 0),))))
        self.assertTrue(agree(Faces(((2,),), ((1, 1),), ((1, 1),))))
        # These agree without a box.
        self.assertTrue(agree(Faces(((1, 0), (0, 1)), ((1, 0), (0, 1)), ((0, 1), (1, 0)))))

    def test_faces_of_boxes(self):
        chance = random.Random(233)
        for _ in range(200):
            box = some_box(chance, *[chance.randint(1, 3) for _ in range(3)], chance.randint(0, 12))
            faces = box_faces(box)
            a, b, c = len(box), len(box[0]), len(box[0][0])
            self.assertEqual(faces.edges, (a, b, c))
            for i, j in itertools.product(range(a), range(b)):
                self.assertEqual(faces.front[i][j], sum(box[i][j]))
            for i, k in itertools.product(range(a), range(c)):
                self.assertEqual(faces.side[i][k], sum(box[i][j][k] for j in range(b)))
            for j, k in itertools.product(range(b), range(c)):
                self.assertEqual(faces.top[j][k], sum(box[i][j][k] for i in range(a)))
            self.assertIs(agree(faces), True)

    def test_tipped(self):
        for faces in many_faces(234, 150):
            told = tipped(faces)
            a, b, c = faces.edges
            self.assertEqual(told.edges, (b, a, c))
            self.assertEqual((told.side, told.top), (faces.top, faces.side))
            self.assertEqual(tipped(told), faces)
            boxes = [tuple(tuple(box[i][j] for i in range(a)) for j in range(b)) for box in all_boxes(faces)]
            self.assertEqual(all_boxes(told), sorted(boxes))

    def test_boxes_that_are_none(self):
        good = (((12,),),)
        self.assertEqual(box_faces(good).text, "front 12\nside 12\ntop 12")
        wrong = STRANGE + ((), ((),), (((),),), (((13,),),), (((6, 7),),), (((6,), (7,)),), (((6,),), ((7,),)), (((-1,),),),
                           (((True,),),), (((None,),),), ((("1",),),), ([[1]],), (([1],),), [((1,),)], (((1,), (1, 1)),),
                           (((1,),), ((1,), (1,))), (((1,),), ((1, 1),)), (((1,),),) * 4, (((1,),) * 4,), (((1,) * 4,),),
                           ((((1,),),),), ((1,),), (((1,),), (1,)), (((1,),), None), (((1,), None),), (((10 ** 99,),),))
        for value in wrong:
            with self.assertRaises(InvalidBox) as caught:
                box_faces(value)
            self.assertIs(caught.exception.given, value)
        for value in STRANGE:
            for box in ((value,), ((value,),), (((value,),),), (((1,),), value), (((1,), value),), (((1, value),),)):
                with self.assertRaises(InvalidBox) as caught:
                    box_faces(box)
                self.assertIs(caught.exception.given, box)

    def test_what_are_no_faces(self):
        for value in STRANGE + (GOOD.text, FRONT, BOX):
            for call in (agree, tipped):
                with self.assertRaises(NotFaces) as caught:
                    call(value)
                self.assertIs(caught.exception.given, value)

    def test_great_faces(self):
        self.assertTrue(agree(faces_around((((12, 0, 0), (0, 12, 0), (0, 0, 12)),))))


if __name__ == "__main__":
    unittest.main()
