import copy
import pickle
import unittest

from rootshares import errors
from rootshares.errors import (
    NoCosts, NoLot, NoNumber, NoPlace, NoRoots, NoText, NoTie, NoTree, NoWeb, RootError, TooFew, TooMany)

OF_A_TEXT = [NoWeb, NoPlace, NoTie, NoLot, NoTree, NoText, NoNumber, NoRoots, NoCosts, TooMany]
ALL = OF_A_TEXT + [TooFew]


class Errors(unittest.TestCase):
    def test_root_error_comes_under_value_error(self):
        self.assertEqual(RootError.__bases__, (ValueError,))
        with self.assertRaises(ValueError):
            raise RootError("no")

    def test_each_other_class_comes_straight_under_root_error(self):
        for error in ALL:
            with self.subTest(error=error.__name__):
                self.assertEqual(error.__bases__, (RootError,))

    def test_none_comes_under_another(self):
        for error in ALL:
            for other in ALL:
                with self.subTest(error=error.__name__, other=other.__name__):
                    self.assertEqual(issubclass(error, other), error.__name__ == other.__name__)

    def test_there_are_just_these(self):
        found = [name for name, thing in vars(errors).items() if isinstance(thing, type)]
        self.assertEqual(sorted(found), sorted([error.__name__ for error in ALL + [RootError]]))

    def test_made_of_a_text(self):
        for error in OF_A_TEXT:
            with self.subTest(error=error.__name__):
                with self.assertRaises(RootError) as caught:
                    raise error("words")
                self.assertIsInstance(caught.exception, error)
                self.assertEqual(str(caught.exception), "words")

    def test_too_few_has_its_lot(self):
        for lot in [("a",), ("a", "b", "c")]:
            with self.assertRaises(RootError) as caught:
                raise TooFew(lot)
            self.assertIsInstance(caught.exception, TooFew)
            self.assertEqual(caught.exception.lot, lot)
            self.assertIsInstance(caught.exception.lot, tuple)

    def test_each_too_few_has_its_own_lot(self):
        one, other = TooFew(("a",)), TooFew(("b",))
        self.assertEqual((one.lot, other.lot), (("a",), ("b",)))

    def test_a_copy_has_the_lot_too(self):
        error = TooFew(("a", "b"))
        self.assertEqual(copy.copy(error).lot, ("a", "b"))
        self.assertEqual(pickle.loads(pickle.dumps(error)).lot, ("a", "b"))


if __name__ == "__main__":
    unittest.main()
