"""Writings: heardagain.written, [F1] and [F2]."""

import random
import unittest

from heardagain.points import points_error
from heardagain.written import given_by, placed, size, writing_error
from tests.helper import ODD_VALUES, check_call, check_examples, flat, same, some_writings, sums

EXAMPLES = """
    >>> from heardagain.written import given_by, placed, size, writing_error
    >>> theme = ((0, 0), (1, 2), (2, 4))
    >>> three = ((theme, ((0, 60), (4, 60), (8, 62))),)
    >>> tune = placed(three)
    >>> tune
    ((0, 60), (1, 62), (2, 64), (4, 60), (5, 62), (6, 64), (8, 62), (9, 64), (10, 66))
    >>> size(three), size(()), writing_error(tune, three), writing_error((), ()), writing_error(tune, three[0]), writing_error(tune, list(three))
    (6, 0, None, None, 'form', 'form')
    >>> one = ((0, 0),)
    >>> [writing_error(tune, value) for value in (((((1, 0),), ((0, 60),)),), ((one, ()),), three * 2, ((((0, 0), (1, 3)), ((0, 60),)),), ((one, tune[:8]),))]
    [('theme', 0), ('shifts', 0), ('order', 1), ('placed', 0, (1, 63)), ('left', (10, 66))]
    >>> near = ((((0, 0), (1, 0)), ((0, 0), (1, 0))),)
    >>> placed(near), given_by(near, (1, 0)), given_by(three, (5, 62)), given_by(three, (7, 7))
    (((0, 0), (1, 0), (2, 0)), ((0, (0, 0), (1, 0)), (0, (1, 0), (0, 0))), ((0, (1, 2), (4, 60)),), ())
"""

ONE = ((0, 0),)
THEME = ((0, 0), (1, 2), (2, 4))
PLAYS = ((0, 60), (4, 60), (8, 62))
THREE = ((THEME, PLAYS),)
TUNE = ((0, 60), (1, 62), (2, 64), (4, 60), (5, 62), (6, 64), (8, 62), (9, 64), (10, 66))
# Three pairs that are a writing of TUNE.
PARTS = ((ONE, TUNE[:2]), (ONE, TUNE[2:5]), (THEME, ((4, 60), (8, 62))))
HUGE = 10 ** 399
NO_THEMES = ODD_VALUES + ((), list(THEME), THEME[1:], THEME[::-1], ((0, 0), (0, 0)), ((1, 0),), ((-1, 0), (0, 0)),
                          ((0, -1), (0, 0)), ((0, 0), (10000, 0)), ((0, 0), (1, True)), ((False, 0),), ([0, 0],),
                          ((0, 0, 0),), tuple(flat(61, 0)), ((0, 0), 1), ((0, 1), (1, 0)))
NO_SHIFTS = ODD_VALUES + ((), list(PLAYS), PLAYS[::-1], PLAYS + PLAYS, ((0, 60), (0, 60)), ((0, 60), (4, True)),
                          ([0, 60],), ((0, 60, 0),), ((0,),), ((False, 60),), (0, 60), ((0, "60"),), ((0, 60), None))


def told_error(points, value):
    """Return what the words of [F2] tell of a value, each asked of all pairs ahead of the next one."""
    if type(value) is not tuple or not all(type(pair) is tuple and len(pair) == 2 for pair in value):
        return "form"
    for place, (theme, _) in enumerate(value):
        if points_error(theme) is not None or theme == () or theme[0] != (0, 0):
            return ("theme", place)
    for place, (_, shifts) in enumerate(value):
        right = type(shifts) is tuple and all(type(one) is tuple and [type(item) for item in one] == [int, int]
                                              for one in shifts)
        if not right or not shifts or list(shifts) != sorted(set(shifts)):
            return ("shifts", place)
    for place in range(1, len(value)):
        if not value[place - 1] < value[place]:
            return ("order", place)
    for place, pair in enumerate(value):
        if not sums(*pair) <= set(points):
            return ("placed", place, min(sums(*pair) - set(points)))
    left = set(points) - told_placed(value)
    return ("left", min(left)) if left else None


def told_placed(writing):
    """Return all that the pairs of a writing place."""
    return set().union(*[sums(*pair) for pair in writing])


class ExamplesTest(unittest.TestCase):
    def test_examples(self):
        self.assertEqual(check_examples(self, EXAMPLES), 4)


class WritingErrorTest(unittest.TestCase):
    def check(self, wanted, value, points=TUNE):
        """Check what is told of a value, and that the words tell the same."""
        check_call(self, writing_error, wanted, points=points, value=value)
        self.assertTrue(same(told_error(points, value), wanted))

    def test_writings(self):
        for value in (THREE, PARTS, ((ONE, TUNE),), tuple([(ONE, (point,)) for point in TUNE])):
            self.check(None, value)
        self.check(None, (), ())
        self.check(("left", TUNE[0]), ())
        for writing in some_writings(60, 1):
            self.check(None, writing, tuple(sorted(told_placed(writing))))

    def test_form(self):
        for value in ODD_VALUES + (list(THREE), THREE[0], (list(THREE[0]),), (THREE[0] + (1,),), (THREE[0][:1],), {1: 2}):
            if value != () and told_error(TUNE, value) == "form":
                self.check("form", value)
        for value in (list(THREE), THREE[0], None, True, "", [], (1,), ((),), THREE + (None,), THREE + (list(THREE[0]),),
                      (THREE[0] + THREE[0],), ({},)):
            self.check("form", value)
            self.check("form", value, ())

    def test_theme(self):
        for theme in NO_THEMES:
            self.check(("theme", 0), ((theme, PLAYS),))
            self.check(("theme", 1), ((ONE, TUNE), (theme, PLAYS)))
            self.check(("theme", 0), ((theme, None), (ONE, TUNE)))
            self.check(("theme", 1), ((THEME, ()), (theme, ()), (None, PLAYS)))

    def test_shifts(self):
        for shifts in NO_SHIFTS:
            self.check(("shifts", 0), ((THEME, shifts),))
            self.check(("shifts", 1), ((ONE, TUNE), (THEME, shifts)))
            # Order, and what is placed, are asked later.
            self.check(("shifts", 1), ((THEME, ((99, 99),)), (ONE, shifts), (ONE, shifts)))

    def test_order(self):
        self.check(("order", 1), THREE * 2)
        self.check(("order", 1), PARTS[::-1])
        self.check(("order", 1), (PARTS[1], PARTS[0], PARTS[2]))
        self.check(("order", 2), (PARTS[0], PARTS[2], PARTS[1]))
        self.check(("order", 2), (PARTS[0], PARTS[1], PARTS[1], PARTS[2]))
        self.check(("order", 3), PARTS + PARTS[2:])
        self.check(("order", 1), ((THEME, ((99, 99),)), (ONE, TUNE)))

    def test_placed(self):
        self.check(("placed", 0, (1, 63)), ((((0, 0), (1, 3)), ((0, 60),)),))
        # The least sum of the first pair that has one.
        self.check(("placed", 1, (3, 60)), ((ONE, TUNE), (((0, 0), (3, 0)), ((0, 60), (1, 62), (2, 64)))))
        self.check(("placed", 1, (1, 60)), ((ONE, TUNE), (((0, 0), (1, 0)), ((0, 60), (4, 60))), (THEME, ((0, 0),))))
        self.check(("placed", 1, (1, 60)), ((ONE, TUNE), (((0, 0), (1, 0)), ((1, 60), (3, 60))), (THEME, ((0, 0),))))
        self.check(("placed", 0, (-7, 60)), ((ONE, ((-7, 60),) + TUNE),))
        self.check(("placed", 0, (0, 60)), THREE, ())
        self.check(("placed", 0, (5, 62)), THREE, TUNE[:4] + TUNE[5:])
        # Sums beyond the bounds of points.
        self.check(("placed", 0, (HUGE, -HUGE)), ((ONE, TUNE + ((HUGE, -HUGE),)),))
        self.check(("placed", 0, (-HUGE, 0)), ((THEME, ((-HUGE, 0), (0, 60))),))
        self.check(("placed", 0, (10000, 0)), ((((0, 0), (1, 0)), ((9999, 0),)),), ((9999, 0),))
        self.check(None, ((((0, 0), (9999, 0)), ((-9999, 5), (0, 5))),), ((-9999, 5), (0, 5), (9999, 5)))

    def test_left(self):
        for place, point in enumerate(TUNE):
            self.check(("left", point), ((ONE, TUNE[:place] + TUNE[place + 1:]),))
            self.check(("left", TUNE[0] if place else TUNE[1]), ((ONE, (point,)),))
        self.check(("left", (5, 63)), THREE, TUNE[:5] + ((5, 63),) + TUNE[5:])
        self.check(("left", (-9999, 9999)), THREE, ((-9999, 9999),) + TUNE)

    def test_each_is_asked_of_all_pairs_ahead_of_the_next_one(self):
        far, none = (THEME, ((99, 99),)), (THEME, ())
        for value, wanted in (
                ((far, none, (None, None), 1), "form"), ((far, none, (None, None)), ("theme", 2)),
                ((none, far, far), ("shifts", 0)), ((far, far, none), ("shifts", 2)), ((far, far, (ONE, TUNE)), ("order", 1)),
                (((ONE, TUNE[:1]), far), ("placed", 1, (99, 99))), (((ONE, TUNE[:1]),), ("left", TUNE[1]))):
            self.check(wanted, value)

    def test_true_is_not_1(self):
        points = ((0, 1), (1, 1))
        self.check(None, ((((0, 0), (1, 0)), ((0, 1),)),), points)
        self.check(("theme", 0), ((((0, 0), (True, 0)), ((0, 1),)),), points)
        self.check(("theme", 0), ((((0, False), (1, 0)), ((0, 1),)),), points)
        self.check(("shifts", 0), ((((0, 0), (1, 0)), ((0, True),)),), points)

    def test_as_the_words_tell(self):
        dice = random.Random(2)
        seen = {}
        for writing in some_writings(150, 3):
            points = tuple(sorted(told_placed(writing)))
            values = [writing, writing[::-1], writing[1:], writing + writing[-1:]]
            for place, (theme, shifts) in enumerate(writing):
                for pair in ((theme[1:], shifts), (theme[::-1], shifts), (theme, shifts[::-1]), (theme, shifts[1:]),
                             (theme + ((9, 9),), shifts), (theme, shifts + ((99, 9),)), (theme[:1], shifts)):
                    values.append(writing[:place] + (pair,) + writing[place + 1:])
            for value in values:
                for own in (points, points[1:], points[:-1], points + ((500, 1),)):
                    wanted = told_error(own, value)
                    self.assertTrue(same(writing_error(own, value), wanted), (own, value))
                    seen[wanted[0] if type(wanted) is tuple else wanted] = True
            value = dice.choice(values)
            self.check(told_error(points, value), value, points)
        self.assertEqual(sorted(seen, key=str), [None, "left", "order", "placed", "shifts", "theme"])

    def test_many_items(self):
        far = tuple([(k, 60) for k in range(1900)])
        self.check(("placed", 0, (1, 60)), ((ONE, far),))
        self.check(("placed", 0, (1, 60)), ((tuple(flat(60, 0)), far),))
        self.check(("order", 1), tuple([(ONE, ((0, 60),))] * 600))


class PlacedTest(unittest.TestCase):
    def test_as_the_words_tell(self):
        for writing in some_writings(150, 4):
            check_call(self, placed, tuple(sorted(told_placed(writing))), writing=writing)
            wanted = sum([len(theme) for theme, _ in writing]) + sum([len(shifts) for _, shifts in writing])
            check_call(self, size, wanted, writing=writing)

    def test_themes_that_lie_over_one_another(self):
        near = ((((0, 0), (1, 0)), ((0, 0), (1, 0))),)
        check_call(self, placed, ((0, 0), (1, 0), (2, 0)), writing=near)
        check_call(self, size, 4, writing=near)
        check_call(self, placed, TUNE, writing=PARTS)
        check_call(self, size, 12, writing=PARTS)
        row = ((tuple(flat(30, 0)), tuple(flat(31, 5))),)
        check_call(self, placed, tuple(flat(60, 5)), writing=row)
        check_call(self, size, 61, writing=row)

    def test_order(self):
        # What later pairs and later shifts place may be less.
        writing = ((ONE, ((5, 5), (9, 0))), (((0, 0), (0, 1)), ((0, 9), (5, 4))), (((0, 0), (7, -3)), ((1, 1), (2, 0))))
        check_call(self, placed, ((0, 9), (0, 10), (1, 1), (2, 0), (5, 4), (5, 5), (8, -2), (9, -3), (9, 0)),
                   writing=writing)

    def test_none(self):
        check_call(self, placed, (), writing=())
        check_call(self, size, 0, writing=())


class GivenByTest(unittest.TestCase):
    def test_as_the_words_tell(self):
        told = {}
        for writing in some_writings(150, 5):
            for point in sorted(told_placed(writing)) + [(0, 0), (2, 70), (-1, 50)]:
                wanted = sorted([(place, item, shift) for place, (theme, shifts) in enumerate(writing)
                                 for item in theme for shift in shifts
                                 if (item[0] + shift[0], item[1] + shift[1]) == point])
                check_call(self, given_by, tuple(wanted), writing=writing, point=point)
                told[len(wanted)] = True
        for many in (0, 1, 2, 3, 4):
            self.assertIn(many, told)

    def test_by_several_plays_and_pairs(self):
        row = (tuple(flat(3, 0)), tuple(flat(3, 0)))
        writing = ((ONE, ((2, 0),)), row)
        check_call(self, given_by, ((0, (0, 0), (2, 0)), (1, (0, 0), (2, 0)), (1, (1, 0), (1, 0)), (1, (2, 0), (0, 0))),
                   writing=writing, point=(2, 0))
        check_call(self, given_by, ((1, (2, 0), (2, 0)),), writing=writing, point=(4, 0))
        check_call(self, given_by, (), writing=writing, point=(5, 0))
        check_call(self, given_by, (), writing=(), point=(0, 0))


if __name__ == "__main__":
    unittest.main()
