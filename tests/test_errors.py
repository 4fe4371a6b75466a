"""The interface's row of errors.py."""

import unittest

from bringhome.errors import HomeError, NoMachine, NoSheet, NoWord


class Bases(unittest.TestCase):
    def test_home_error_stands_straight_under_value_error(self):
        self.assertEqual(HomeError.__bases__, (ValueError,))

    def test_each_refusal_stands_straight_under_home_error(self):
        for refusal in (NoMachine, NoWord, NoSheet):
            self.assertEqual(refusal.__bases__, (HomeError,))

    def test_no_refusal_is_taken_for_another(self):
        made = {NoMachine: NoMachine(0, "name"), NoWord: NoWord(), NoSheet: NoSheet(0)}
        for kind in made:
            for other, error in made.items():
                self.assertIs(isinstance(error, kind), kind is other)


class Values(unittest.TestCase):
    def test_no_machine_has_its_row_and_its_word(self):
        for row in (0, 1, 26, 8000):
            for word in ("name", "count", "twice", "many", "room", "none"):
                error = NoMachine(row, word)
                self.assertEqual((error.row, error.word), (row, word))

    def test_no_sheet_has_its_row(self):
        for row in (0, 1, 8000):
            self.assertEqual(NoSheet(row).row, row)

    def test_values_are_taken_by_their_names_too(self):
        error = NoMachine(word="twice", row=3)
        self.assertEqual((error.row, error.word), (3, "twice"))
        self.assertEqual(NoSheet(row=4).row, 4)

    def test_values_belong_to_each_object(self):
        one, other = NoMachine(1, "name"), NoMachine(2, "count")
        self.assertEqual((one.row, one.word, other.row, other.word), (1, "name", 2, "count"))

    def test_just_the_told_values_are_taken(self):
        for make in (lambda: NoMachine(), lambda: NoMachine(1), lambda: NoMachine(1, "name", 2),
                     lambda: NoSheet(), lambda: NoSheet(1, 2)):
            with self.assertRaises(TypeError):
                make()


class Raised(unittest.TestCase):
    def test_raised_they_are_taken_by_their_base(self):
        for error in (NoMachine(2, "room"), NoWord(), NoSheet(5)):
            for base in (HomeError, ValueError):
                with self.assertRaises(base) as taken:
                    raise error
                self.assertIs(taken.exception, error)


if __name__ == "__main__":
    unittest.main()
