import unittest

from bentrows.errors import NoText
from bentrows.sheets import is_sheet, sheared
from bentrows.texts import read_sheet, show_sheet
from samples import BIG, LARGE, NO_SHEETS, SHEETS, THINGS

NO_NUMBERS = ["", "-", "+1", "--1", "1-", "-0", "00", "01", "-01", "007", "1.0", "1e3", "0x1", "1_0", "a", "\t1",
              "1\n", "\n", "'1'", "1;", "None", "True", "(1"]
WORDS_THAT_ARE_NO_POINTS = ["", "5", ",", "5,", ",5", "5,5,", ",5,5", "5,5,5", "5;5", "(5,5)", "5,5\n", "\t5,5", "5\n5,5"]


class ShowTest(unittest.TestCase):
    """[14]: sheets written."""

    def test_as_the_document_has_it(self):
        self.assertEqual(show_sheet(((0, 0), (1, 5), (3, -2))), "0,0 1,5 3,-2")

    def test_one_point(self):
        self.assertEqual(show_sheet(((-10, 0),)), "-10,0")
        self.assertEqual(show_sheet(((BIG, -BIG),)), "9" * 30 + ",-" + "9" * 30)

    def test_each_number_by_its_figures(self):
        for sheet in SHEETS + LARGE:
            self.assertEqual(show_sheet(sheet), " ".join(f"{x},{y}" for x, y in sheet))

    def test_noughts_within_long_numbers(self):
        for number in [10 ** 59, 10 ** 60 - 1, 10 ** 60, 10 ** 60 + 7, 10 ** 61, 10 ** 120, 10 ** 121 + 10 ** 60]:
            self.assertEqual(show_sheet(((number, -number),)), f"{number},{-number}")


class ReadTest(unittest.TestCase):
    """[14]: sheets read."""

    def refused_at(self, text):
        with self.assertRaises(NoText, msg=repr(text)) as caught:
            read_sheet(text)
        self.assertIs(type(caught.exception.at), int)
        return caught.exception.at

    def test_what_is_written_is_read_to_the_same(self):
        for sheet in SHEETS + LARGE + [sheared(sheet, BIG) for sheet in LARGE]:
            self.assertEqual(read_sheet(show_sheet(sheet)), sheet)

    def test_read(self):
        self.assertEqual(read_sheet("0,0 1,5 3,-2"), ((0, 0), (1, 5), (3, -2)))
        self.assertEqual(read_sheet("-10,-7"), ((-10, -7),))
        self.assertEqual(read_sheet("-" + "9" * 30 + ",100"), ((-BIG, 100),))

    def test_numbers_of_thousands_of_figures_are_shown_and_read(self):
        sheet = ((-3, 1), (BIG, 2), (2 * BIG, -5))
        while sheet[-1][1] < 10 ** 5000:
            sheet = sheared(sheet, abs(sheet[-1][1]) + 1)
        self.assertIs(is_sheet(sheet), True)
        self.assertEqual(read_sheet(show_sheet(sheet)), sheet)

    def test_no_text(self):
        for thing in NO_SHEETS + SHEETS:
            if not isinstance(thing, str):
                self.assertEqual(self.refused_at(thing), 0)

    def test_texts_that_are_no_sheets(self):
        for text in ["", " ", "a", "0", "0,0\n", " 0,0", "0, 0", "0 0", "0 ,0"]:
            self.assertEqual(self.refused_at(text), 0)

    def test_numbers_not_written_so(self):
        for number in NO_NUMBERS:
            for word in (number + ",5", "5," + number):
                self.assertEqual(self.refused_at(word), 0)
                self.assertEqual(self.refused_at("0,0 1,2 " + word + " 9,9"), 2)

    def test_words_that_are_no_points(self):
        for word in WORDS_THAT_ARE_NO_POINTS:
            self.assertEqual(self.refused_at(word + " 9,9"), 0)
            self.assertEqual(self.refused_at("0,0 " + word), 1)
            self.assertEqual(self.refused_at("0,0 1,3 " + word + " x"), 2)

    def test_blanks(self):
        self.assertEqual(self.refused_at(" 0,0"), 0)
        self.assertEqual(self.refused_at("0,0 "), 1)
        self.assertEqual(self.refused_at("0,0  1,5"), 1)
        self.assertEqual(self.refused_at("0,0 1,5  3,-2"), 2)
        self.assertEqual(self.refused_at("0,0\n1,5"), 0)

    def test_x_no_greater_than_that_of_the_word_ahead(self):
        self.assertEqual(self.refused_at("0,0 0,1"), 1)
        self.assertEqual(self.refused_at("0,0 0,0"), 1)
        self.assertEqual(self.refused_at("0,0 1,5 1,6 2,2"), 2)
        self.assertEqual(self.refused_at("0,0 2,5 1,6 a"), 2)
        self.assertEqual(self.refused_at("0,0 2,5 3,6 -4,7"), 3)
        self.assertEqual(self.refused_at("5,0 a 1,6"), 1)

    def test_more_than_24(self):
        words = [f"{x},{x * x}" for x in range(30)]
        self.assertEqual(len(read_sheet(" ".join(words[:24]))), 24)
        for many in (25, 26, 30):
            self.assertEqual(self.refused_at(" ".join(words[:many])), many)

    def test_a_wrong_word_goes_ahead_of_too_many(self):
        words = [f"{x},{x * x}" for x in range(27)]
        self.assertEqual(self.refused_at(" ".join(words + ["a"])), 27)
        self.assertEqual(self.refused_at(" ".join(words + ["a", "b"])), 27)
        self.assertEqual(self.refused_at(" ".join(words + ["5,5", "30,1"])), 27)
        self.assertEqual(self.refused_at(" ".join(words[:3] + ["a"] + words[4:])), 3)

    def test_three_on_one_line(self):
        self.assertEqual(self.refused_at("0,0 1,1 2,2"), 3)
        self.assertEqual(self.refused_at("0,0 1,1 2,2 3,7 4,90"), 5)
        self.assertEqual(self.refused_at("0,0 1,1 2,2 3,7 a"), 4)
        self.assertEqual(self.refused_at("0,0 1,1 2,2 2,7 9,9"), 3)

    def test_things_of_whatever_kind_are_refused(self):
        for thing in THINGS:
            if thing not in ("0,0", "0,0 1,5"):
                with self.assertRaises(NoText):
                    read_sheet(thing)


if __name__ == "__main__":
    unittest.main()
