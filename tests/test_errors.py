import unittest

from troupe.books import read_book
from troupe.errors import NoBook, NoCasting, NoChange, NoName, NoRow, TroupeError

REFUSALS = (NoBook, NoChange, NoCasting, NoName, NoRow)


class TestErrors(unittest.TestCase):
    def test_troupe_error_is_a_value_error(self):
        self.assertTrue(issubclass(TroupeError, ValueError))

    def test_each_refusal_stands_under_troupe_error(self):
        for refusal in REFUSALS:
            with self.subTest(refusal=refusal):
                self.assertTrue(issubclass(refusal, TroupeError))
                self.assertIsNot(refusal, TroupeError)

    def test_no_refusal_stands_under_another(self):
        for one in REFUSALS:
            for other in REFUSALS:
                if one is not other:
                    with self.subTest(one=one, other=other):
                        self.assertFalse(issubclass(one, other))

    def test_a_refused_book_is_taken_by_each_of_its_classes(self):
        for kind in (NoBook, TroupeError, ValueError):
            with self.subTest(kind=kind):
                with self.assertRaises(kind) as taken:
                    read_book(["nothing"])
                self.assertEqual(repr(taken.exception.at), "0")


if __name__ == "__main__":
    unittest.main()
