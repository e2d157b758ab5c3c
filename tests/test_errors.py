"""The classes of errors, and the numbers of limits.py ([4])."""

import unittest

from toldcounts import errors, limits

GIVEN = """InvalidText InvalidName InvalidNumber InvalidIndex InvalidStretch InvalidCount InvalidFilling InvalidCell
InvalidTold InvalidPeople InvalidPlaces InvalidScale InvalidScores InvalidFact InvalidFace InvalidSpot InvalidBox
InvalidShare InvalidPairs InvalidOrder InvalidProfile InvalidRule InvalidPlace InvalidWish NotAreas NotACross NotAPage
NotAReport NotFaces NotAPoll NotVotes NotAThing NotADesk""".split()
INDEX = "InvalidLines InvalidNames InvalidCells InvalidFacts InvalidShares InvalidFirsts InvalidPolls InvalidLog".split()
NAMES = {"WrongValue": (ValueError, GIVEN, INDEX, []),
         "WrongName": (LookupError, ["UnknownName"], ["InUse"], []),
         "NotPossible": (ArithmeticError, ["TooMany"], ["Broken"], ["NoData", "NothingToUndo"])}
PYTHONS = (ValueError, LookupError, ArithmeticError, KeyError, IndexError, TypeError, ZeroDivisionError,
           OverflowError, RuntimeError, AttributeError, UnicodeError)
VALUES = (None, True, 0, -3, 10 ** 99, "", "x", b"x", (), (1, (2,)), [], {}, object(), len, ValueError)


def own_classes():
    return {name: value for name, value in vars(errors).items() if isinstance(value, type)}


class Classes(unittest.TestCase):
    def test_there_are_just_these(self):
        told = set(NAMES)
        for _, given, index, bare in NAMES.values():
            told.update(given, index, bare)
        self.assertEqual(told, set(own_classes()))
        self.assertEqual(len(GIVEN), 33)
        self.assertEqual(len(INDEX), 8)

    def test_each_belongs_to_one_base_class_alone(self):
        for base, (python, given, index, bare) in NAMES.items():
            self.assertEqual(own_classes()[base].__bases__, (python,))
            for name in given + index + bare:
                self.assertEqual(own_classes()[name].__bases__, (own_classes()[base],), name)
                for other in PYTHONS:
                    self.assertEqual(issubclass(own_classes()[name], other), issubclass(python, other), name)

    def test_attributes(self):
        for _, given, index, bare in NAMES.values():
            for attribute, names in (("given", given), ("index", index)):
                for name in names:
                    for value in VALUES:
                        self.check(own_classes()[name], attribute, value)
            for name in bare:
                self.assertEqual(vars(own_classes()[name]()), {})
        for base in NAMES:
            self.assertEqual(vars(own_classes()[base]()), {})

    def check(self, kind, attribute, value):
        for error in (kind(value), kind(**{attribute: value})):
            self.assertIs(getattr(error, attribute), value)
            self.assertEqual(list(vars(error)), [attribute])
            with self.assertRaises(kind):
                raise error


class Limits(unittest.TestCase):
    def test_numbers(self):
        told = {"MOST_NUMBER": 4000, "MOST_LINES": 10, "MOST_SIDE_LINES": 8, "MOST_LEAVES": 4, "MOST_COUNTED": 40,
                "MOST_COVERED": 9, "MOST_BASE": 100, "MOST_SCORE": 6, "MOST_PEOPLE": 12, "MOST_FACTS": 6,
                "MOST_EDGE": 3, "MOST_FACE": 12, "MOST_SHARES": 6, "MOST_VOTERS": 60}
        self.assertEqual(told, {name: value for name, value in vars(limits).items() if name.startswith("MOST")})


if __name__ == "__main__":
    unittest.main()
