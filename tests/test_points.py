"""Points and figures: heardagain.points, [A5] and [A7]."""

import unittest

from heardagain.points import figure_error, points_error
from tests.helper import ODD_VALUES, check_call, check_examples

EXAMPLES = """
    >>> from heardagain.points import figure_error, points_error
    >>> points_error(((0, 0), (2, 4))), points_error(()), points_error([(0, 0)]), points_error(((0, 0), (0, 0))), points_error(((0, 0), (1, 10000)))
    (None, None, 'form', ('order', 1), ('point', 1))
    >>> figure_error(((0, 0), (2, 4))), figure_error(((0, 0),)), figure_error(((0, 0), (0, 4))), figure_error(((2, 4), (0, 0))), figure_error(tuple([(k, 0) for k in range(13)]))
    (None, 'few', 'chord', ('order', 1), 'many')
"""

TUNE = ((-3, 7), (0, -5), (0, 0), (4, -9))
WRONG_POINTS = ((1,), (1, 2, 3), [1, 2], (True, 0), (0, False), (None, 0), (0, "0"), ("0", 0), ((0,), 0), (0, [0]),
                (10000, 0), (-10000, 0), (0, 10000), (0, -10000), (10 ** 399, 0), (0, -10 ** 399), "00")


def row(many):
    """Return so many points in order."""
    return tuple([(k, 60) for k in range(many)])


def chord(many):
    """Return so many points of one onset."""
    return tuple([(5, k) for k in range(many)])


class ExamplesTest(unittest.TestCase):
    def test_examples(self):
        self.assertEqual(check_examples(self, EXAMPLES), 2)


class PointsErrorTest(unittest.TestCase):
    def test_points(self):
        for value in ((), TUNE, TUNE[:1], row(59), row(60), chord(60), ((-9999, -9999), (-9999, 9999), (9999, -9999),
                                                                        (9999, 9999))):
            check_call(self, points_error, None, value=value)

    def test_form(self):
        for value in (None, True, 0, "", "none", [], list(TUNE), {}, {(0, 0): 1}):
            check_call(self, points_error, "form", value=value)

    def test_point(self):
        for item in WRONG_POINTS + ODD_VALUES:
            for place in range(len(TUNE) + 1):
                check_call(self, points_error, ("point", place), value=TUNE[:place] + (item,) + TUNE[place:])

    def test_the_first_wrong_point_is_told(self):
        self.assertEqual(points_error(TUNE[:1] + ((1,), None) + TUNE[1:]), ("point", 1))
        self.assertEqual(points_error((1, 2)), ("point", 0))
        self.assertEqual(points_error((TUNE,)), ("point", 0))

    def test_order(self):
        for less in ((3, 99), (4, -1), (-4, 0), (4, 0)):
            check_call(self, points_error, ("order", 1), value=((4, 0), less))
        self.assertEqual(points_error(TUNE[::-1]), ("order", 1))
        self.assertEqual(points_error(TUNE + TUNE), ("order", 4))
        self.assertEqual(points_error(TUNE[:2] + TUNE[1:]), ("order", 2))

    def test_many(self):
        for value in (row(61), row(200), chord(61)):
            check_call(self, points_error, "many", value=value)

    def test_several_faults_at_once(self):
        self.assertEqual(points_error(list(row(61)) + [None]), "form")
        self.assertEqual(points_error(row(61)[::-1] + ((1,),)), ("point", 61))
        self.assertEqual(points_error(row(61) + row(1)), ("order", 61))

    def test_any_value(self):
        for value in ODD_VALUES:
            wanted = ("point", 0) if isinstance(value, tuple) else "form"
            check_call(self, points_error, wanted, value=value)


class FigureErrorTest(unittest.TestCase):
    def test_figures(self):
        for value in (TUNE, TUNE[:2], row(2), row(12), ((0, 0), (0, 1), (1, 0)), ((0, 0), (1, 0), (1, 1)),
                      ((-9999, 0), (9999, 0)), chord(11) + ((6, 0),)):
            check_call(self, figure_error, None, value=value)

    def test_what_points_error_tells(self):
        for value in (None, [], list(TUNE), TUNE[::-1], TUNE + TUNE, row(61), chord(61)) + ODD_VALUES + WRONG_POINTS:
            self.assertIsNotNone(points_error(value))
            check_call(self, figure_error, points_error(value), value=value)
        for item in WRONG_POINTS:
            check_call(self, figure_error, ("point", 0), value=(item,))
            check_call(self, figure_error, ("point", 2), value=TUNE[:2] + (item,))

    def test_few(self):
        for value in ((), TUNE[:1], chord(1), ((9999, -9999),)):
            check_call(self, figure_error, "few", value=value)

    def test_many(self):
        for value in (row(13), row(60)):
            check_call(self, figure_error, "many", value=value)

    def test_chord(self):
        for value in (chord(2), chord(12), ((-9999, -9999), (-9999, 9999))):
            check_call(self, figure_error, "chord", value=value)

    def test_several_faults_at_once(self):
        self.assertEqual(figure_error(chord(13)), "many")
        self.assertEqual(figure_error(chord(2)[::-1]), ("order", 1))
        self.assertEqual(figure_error(row(13)[::-1]), ("order", 1))
        self.assertEqual(figure_error(row(13) + (None,)), ("point", 13))
        self.assertEqual(figure_error(((5, 1), (5, 1))), ("order", 1))


if __name__ == "__main__":
    unittest.main()
