import unittest

from ringmeet.errors import Alike, Lacks, MeetError, NoRow, NoText

REFUSALS = (Alike, NoText, NoRow, Lacks)


class Refusals(unittest.TestCase):
    def test_bases(self):
        self.assertEqual(MeetError.__bases__, (ValueError,))
        for refusal in REFUSALS:
            self.assertEqual(refusal.__bases__, (MeetError,))

    def test_none_under_another(self):
        for one in REFUSALS:
            for other in REFUSALS:
                self.assertEqual(issubclass(one, other), one is other)

    def test_values(self):
        for number in (0, 1, 11, 4000):
            self.assertEqual(Alike(number).number, number)
            self.assertEqual(NoText(number).row, number)
            self.assertIs(type(str(Alike(number))), str)
            self.assertIs(type(str(NoText(number))), str)

    def test_each_object_keeps_its_own_value(self):
        one, other = Alike(1), Alike(2)
        self.assertEqual((one.number, other.number), (1, 2))
        one, other = NoText(1), NoText(2)
        self.assertEqual((one.row, other.row), (1, 2))

    def test_made_with_a_text(self):
        for refusal in (MeetError, NoRow, Lacks):
            self.assertEqual(str(refusal("some words")), "some words")

    def test_raised_and_taken(self):
        for error in (Alike(3), NoText(3), NoRow("a"), Lacks("b"), MeetError("c")):
            with self.assertRaises(MeetError) as taken:
                raise error
            self.assertIs(taken.exception, error)


if __name__ == "__main__":
    unittest.main()
