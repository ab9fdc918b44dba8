"""The error classes of the interface: their base, their arguments and attributes."""

import unittest

from silentlinks import errors

TOLD = """
BadNumber(name), BadHouses(), BadHouse(house), BadSet(at), BadLinks(at), BadPattern(number), BadBook(), OtherHouses(),
TooMany(name), BadText(line), IsFallen(house), BadPlaces(at), NotAPlace(at), OtherBook(), Foes(first, other),
BadLots(row, at), NotCrossing(), NoFullClaim(), NotASplit(), BadMachine(), BadEvent(), NotAwake(house),
IsAwake(house), IsBusy(house), NotAdmitted(house), NoSheet(house, number), IsSilent(first, other), NotDone(time),
NotFree(time), BadProgram(), NotAName(name), NoTick(house, number), BadOwner(at), NoDeed(at), BadRecord(at),
TooManyDeeds(number), NotOne(at), BadPaper(), BadRows(at), FixedMachine(), NothingBack(), Closed(), NotTouring()
"""


def told_classes():
    for piece in TOLD.replace("\n", " ").split("),"):
        name, names = piece.strip().rstrip(")").split("(")
        yield name, [x for x in names.split(", ") if x]


class Errors(unittest.TestCase):
    def test_base(self):
        self.assertEqual(errors.LinksError.__bases__, (Exception,))

    def test_classes(self):
        rows = list(told_classes())
        self.assertEqual(len(rows), 43)
        for name, names in rows:
            made = getattr(errors, name)
            self.assertEqual(made.__bases__, (errors.LinksError,))
            told = [f"some {x}" for x in names]
            for error in (made(*told), made(**dict(zip(names, told)))):
                self.assertEqual(vars(error), dict(zip(names, told)))

    def test_missing_argument(self):
        for name, names in told_classes():
            if names:
                with self.assertRaises(TypeError):
                    getattr(errors, name)()


if __name__ == "__main__":
    unittest.main()
