"""Tests of seriesforms.series."""

import itertools
import unittest
from fractions import Fraction

from kit import FORTY, NO_NUMBERS, ODD, Kit, Same, fraction

from seriesforms.errors import InvalidEntries, InvalidText
from seriesforms.ratios import Ratio
from seriesforms.series import Series

SMALL = [None, 0, 1, -2, Ratio(1, 2), Ratio(-7, 3), Ratio(4, 2)]
ROWS = [row for length in range(4) for row in itertools.product(SMALL, repeat=length)]


class MakingTest(Kit):
    def test_entries(self):
        for row in ROWS:
            with self.subTest(row=row):
                series = Series(row)
                self.assertIs(type(series.entries), tuple)
                self.assertEqual(len(series.entries), len(row))
                for found, given in zip(series.entries, row):
                    if given is None:
                        self.assertIsNone(found)
                    else:
                        self.assertIs(type(found), Ratio)
                        self.assertEqual(found, given)

    def test_by_name(self):
        self.assertEqual(Series(entries=(1, None)), Series((1, None)))
        self.assertEqual(Series.read(text="1 _"), Series((1, None)))

    def test_long_series_and_numbers(self):
        row = tuple(None if place % 7 == 3 else Ratio(FORTY + place, 3) for place in range(2000))
        series = Series(row)
        self.assertEqual(series.entries, row)
        self.assertEqual(series.missing, tuple(range(3, 2000, 7)))
        self.assertEqual(Series.read(str(series)), series)

    def test_wrong_entries(self):
        others = [value for value in NO_NUMBERS if value is not None]
        for value in others:
            for row in [(value,), (1, value), (value, None), (None, Ratio(1, 2), value), (True, value)]:
                with self.subTest(row=repr(row)):
                    self.refused(InvalidEntries, row, Series, row)
                    self.refused(InvalidEntries, row, Series, entries=row)
        for row in [[], [1], [None], [1, 2], {}, {1: 2}, {1}, "", "1", "1 _", 1, 0, None, True, Ratio(1), b"", ODD, Same()]:
            with self.subTest(row=repr(row)):
                self.refused(InvalidEntries, row, Series, row)
                self.refused(InvalidEntries, row, Series, entries=row)
        for row in [range(2), iter((1,)), (1, [2]), ((1,),), ((),), (1, (None,)), (Series(()),), (1, "_"), ("1",)]:
            with self.subTest(row=repr(row)):
                self.refused(InvalidEntries, row, Series, row)

    def test_a_series_is_no_tuple_of_entries(self):
        row = Series((1, None))
        self.refused(InvalidEntries, row, Series, row)


class PropertiesTest(Kit):
    def test_missing_length_and_truth(self):
        for row in ROWS:
            with self.subTest(row=row):
                series = Series(row)
                self.assertEqual(series.missing, tuple(place for place in range(len(row)) if row[place] is None))
                self.assertIs(type(series.missing), tuple)
                self.assertEqual(len(series), len(row))
                self.assertIs(bool(series), len(row) > 0)

    def test_text_and_repr(self):
        for row in ROWS:
            words = ["_" if entry is None else str(Fraction(str(entry))) for entry in row]
            with self.subTest(row=row):
                self.assertEqual(str(Series(row)), " ".join(words))
                self.assertEqual(repr(Series(row)), f"Series({' '.join(words)!r})")
        self.assertEqual(repr(Series((1, None, Ratio(1, 2)))), "Series('1 _ 1/2')")
        self.assertEqual([repr(Series(())), str(Series(()))], ["Series('')", ""])

    def test_equality(self):
        for one in ROWS[:150]:
            for two in ROWS[:150]:
                with self.subTest(one=one, two=two):
                    alike = [fraction(entry) for entry in Series(one).entries] == [
                        fraction(entry) for entry in Series(two).entries
                    ]
                    self.assertIs(Series(one) == Series(two), alike)
                    self.assertIs(Series(one) != Series(two), not alike)
        self.assertIs(Series((Ratio(4, 2),)) == Series((2,)), True)
        self.assertIs(Series((0,)) == Series((None,)), False)

    def test_equal_to_nothing_else(self):
        for other in [(), (1, None), [1, None], "1 _", "", None, 0, 1, Ratio(1), True, False, {}, object(), ODD, Same()]:
            for series in [Series(()), Series((1, None)), Series((1,)), Series((0,))]:
                with self.subTest(series=series, other=repr(other)):
                    self.assertIs(series == other, False)
                    self.assertIs(series != other, True)

    def test_nothing_can_be_set(self):
        series = Series((1, None))
        for name in ("entries", "missing"):
            with self.assertRaises(AttributeError):
                setattr(series, name, (2,))
        self.assertEqual(series, Series((1, None)))

    def test_the_tuple_given_stays_as_it_was(self):
        row = (1, Ratio(1, 2), None)
        Series(row)
        self.assertIs(type(row[0]), int)
        self.assertEqual(row, (1, Ratio(1, 2), None))


class ReadingTest(Kit):
    def test_reads_what_str_gives(self):
        for row in ROWS:
            with self.subTest(row=row):
                self.assertEqual(Series.read(str(Series(row))), Series(row))

    def test_texts(self):
        self.assertEqual(Series.read("").entries, ())
        self.assertEqual(Series.read("_").entries, (None,))
        self.assertEqual(Series.read("_ _").entries, (None, None))
        self.assertEqual(Series.read("-3 5/6 _ 0").entries, (Ratio(-3), Ratio(5, 6), None, Ratio(0)))
        self.assertEqual(Series.read(f"-{FORTY}").entries, (Ratio(-FORTY),))

    def test_wrong_texts(self):
        for text in [
            " ", "  ", " 1", "1 ", "1  2", "_ ", " _", "_  _", "1 2 ", " 1 2", "1\t2", "1\n", "1\n2", "1,2", "1, 2",
            "2/4", "1 2/4", "0/1", "5/1", "-0", "+1", "01", "1/0", "1/-2", "-", "/", "x", "1 x", "__", "_1", "1_", "_ __",
            "None", "1.5", "1e3", "- 1", "1 / 2", "1/ 2", "(1)", "True", "\u0661", "1\u00a02", "\u2212" + "1",
        ]:
            with self.subTest(text=text):
                self.refused(InvalidText, text, Series.read, text)
                self.refused(InvalidText, text, Series.read, text=text)

    def test_the_whole_text_is_told(self):
        with self.assertRaises(InvalidText) as context:
            Series.read("1 2/4 x")
        self.assertEqual(context.exception.given, "1 2/4 x")

    def test_no_strings(self):
        for value in [None, True, False, 0, 1, Ratio(1), b"1", b"", (), ("1",), ["1"], {}, {"1"}, object(), ODD, Same(), str]:
            with self.subTest(value=repr(value)):
                self.refused(InvalidText, value, Series.read, value)
                self.refused(InvalidText, value, Series.read, text=value)

    def test_all_short_texts(self):
        """Of all texts of up to five of these characters, just those are read whose words are entries."""
        words = {"_"} | {str(number) for number in range(-9999, 100000)}
        for length in range(6):
            for signs in itertools.product(" _01-", repeat=length):
                text = "".join(signs)
                if text == "" or all(word in words for word in text.split(" ")):
                    self.assertEqual(str(Series.read(text)), text)
                else:
                    self.refused(InvalidText, text, Series.read, text)


class InterfaceTest(unittest.TestCase):
    def test_defined_here(self):
        self.assertEqual((Series.__module__, Series.__name__), ("seriesforms.series", "Series"))
        for name in ("read", "entries", "missing", "__len__", "__eq__", "__str__", "__repr__"):
            with self.subTest(name=name):
                self.assertIn(name, vars(Series))

    def test_example_of_the_document(self):
        row = Series.read("1 _ -1/2")
        found = [
            len(row),
            row.missing,
            str(row.entries[2]),
            row == Series((1, None, row.entries[2])),
            repr(row),
            len(Series(())),
            bool(Series(())),
        ]
        self.assertEqual(found, [3, (1,), "-1/2", True, "Series('1 _ -1/2')", 0, False])


if __name__ == "__main__":
    unittest.main()
