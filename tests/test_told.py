"""Writings of points: heardagain.told, [F3] and [F5]."""

import itertools
import random
import unittest

from heardagain.closed import closed_pairs
from heardagain.errors import TooMany
from heardagain.told import least_writing, told_writing
from heardagain.written import placed, size, writing_error
from tests.helper import (JUST_300, JUST_301, all_lots, check_call, check_examples, check_names, flat, same, score_at,
                          some_points, sums, told_closed)

EXAMPLES = """
    >>> from heardagain.written import given_by, placed, size, writing_error
    >>> theme = ((0, 0), (1, 2), (2, 4))
    >>> three = ((theme, ((0, 60), (4, 60), (8, 62))),)
    >>> tune = placed(three)
    >>> one = ((0, 0),)
    >>> from heardagain.told import least_writing, told_writing
    >>> told_writing(tune) == three, told_writing(tune + ((20, 50),)) == ((one, ((20, 50),)),) + three
    (True, True)
    >>> told_writing(()), told_writing(((3, 60), (4, 60))), told_writing(((0, 0), (1, 0), (2, 0)))
    ((), ((((0, 0),), ((3, 60), (4, 60))),), ((((0, 0),), ((0, 0), (1, 0), (2, 0))),))
    >>> square = ((0, 0), (0, 4), (3, 0), (3, 4))
    >>> size(least_writing(square)), writing_error(square, least_writing(square)), size(told_writing(square)), least_writing(((7, 60),))
    (4, None, 5, ((((0, 0),), ((7, 60),)),))
    >>> least_writing(tune)
    raises TooMany(8)
"""

ONE = ((0, 0),)
THEME = ((0, 0), (1, 2), (2, 4))
TUNE = ((0, 60), (1, 62), (2, 64), (4, 60), (5, 62), (6, 64), (8, 62), (9, 64), (10, 66))
# Rows with some points far off; the numbers of closed pairs that are left at each time of the rule stand beside them.
THEN_300 = (27, ((1, 61), (34, 64), (108, 62), (111, 61), (1015, 64), (1019, 63), (1020, 63)), [30, 300, 1])
THEN_TOO_MANY = (
    (24, ((16, 61), (3005, 61), (3006, 61), (3007, 62))),
    (18, ((10, 62), (14, 61), (22, 63), (112, 61), (1000, 61), (3000, 61), (3002, 63), (3005, 62), (3006, 62))),
)


def moved(points, shift):
    """Return points led by a shift."""
    return tuple([(x + shift[0], y + shift[1]) for x, y in points])


def with_row(many, others):
    """Return a row of so many points, and others."""
    return tuple(sorted(flat(many) + list(others)))


def told_steps(points, closed):
    """Return the writing that the rule makes, step by step, and how many closed pairs were there at each time.

    closed gives the closed pairs of points.
    """
    left, taken, counts = points, [], []
    while True:
        pairs = closed(left)
        counts.append(len(pairs))
        savings = []
        for own, shifts in pairs:
            saving = len(sums(own, shifts)) - len(own) - len(shifts)
            theme = moved(own, (-own[0][0], -own[0][1]))
            if saving > 0 and max([max(abs(x), abs(y)) for x, y in theme]) <= 9999:
                savings.append((-saving, own, shifts))
        if not savings:
            break
        _, own, shifts = min(savings)
        taken.append((moved(own, (-own[0][0], -own[0][1])), moved(shifts, own[0])))
        left = tuple([point for point in left if point not in sums(own, shifts)])
    if left:
        taken.append((ONE, left))
    joined = {theme: sorted({shift for other, shifts in taken if other == theme for shift in shifts}) for theme, _ in taken}
    return tuple(sorted([(theme, tuple(shifts)) for theme, shifts in joined.items()])), counts


def closed_quickly(points):
    """Return the closed pairs of points, as closed_pairs tells them; raise TooMany as it does."""
    return closed_pairs(tuple([point + (0, 1) for point in points]))


def least_size(points):
    """Return the least size of a writing of points, by going through all writings that could be smaller than others."""
    blocks = []
    for lot in all_lots(points):
        theme = moved(lot, (-lot[0][0], -lot[0][1]))
        plays = [shift for shift in points if sums(theme, (shift,)) <= set(points)]
        if max([max(abs(x), abs(y)) for x, y in theme]) <= 9999:
            blocks.extend([(len(theme) + len(shifts), frozenset(sums(theme, shifts))) for shifts in all_lots(plays)])
    blocks = sorted(set(blocks), key=lambda block: block[0])
    least = len(points) + 1
    # Each pair has the size 2 or more.
    for many in range(1, least // 2 + 1):
        for some in itertools.combinations(blocks, many):
            cost = sum([cost for cost, _ in some])
            if cost < least and frozenset().union(*[own for _, own in some]) == frozenset(points):
                least = cost
    return least


class ExamplesTest(unittest.TestCase):
    def test_examples(self):
        self.assertEqual(check_examples(self, EXAMPLES), 4)


class ToldWritingTest(unittest.TestCase):
    def test_as_the_words_tell(self):
        seen = {}
        for points in some_points(250, 1):
            wanted, counts = told_steps(points, told_closed)
            check_call(self, told_writing, wanted, points=points)
            self.assertIsNone(writing_error(points, wanted))
            self.assertLessEqual(size(wanted), len(points) + 1)
            seen[len(counts)] = True
            seen["joined", len(wanted) < len(counts) - 1] = True
        for many in (1, 2):
            self.assertIn(many, seen)

    def test_of_more_points(self):
        dice = random.Random(2)
        seen = {}
        for _ in range(250):
            points = set()
            for _ in range(dice.randint(1, 4)):
                own = {(dice.randrange(6), dice.randrange(6)) for _ in range(dice.randint(2, 4))}
                far = [(dice.randrange(60), dice.randrange(40)) for _ in range(dice.randint(2, 4))]
                points |= {(x + dx, y + dy) for x, y in own for dx, dy in far}
            points = tuple(sorted(points)[:60])
            wanted, counts = told_steps(points, closed_quickly)
            check_call(self, told_writing, wanted, points=points)
            self.assertIsNone(writing_error(points, wanted))
            self.assertLessEqual(size(wanted), len(points) + 1)
            seen[len(counts)] = True
            seen["singles", wanted[0][0] == ONE] = True
        for key in (2, 3, 4, 5, ("singles", True), ("singles", False)):
            self.assertIn(key, seen)

    def test_none_and_one(self):
        check_call(self, told_writing, (), points=())
        for point in ((0, 0), (9999, -9999), (-9999, 9999)):
            check_call(self, told_writing, ((ONE, (point,)),), points=(point,))

    def test_ties(self):
        # The theme three times, and its plays as a theme, save 3 each; the lesser pair is taken.
        check_call(self, told_writing, ((THEME, ((0, 60), (4, 60), (8, 62))),), points=TUNE)
        plays = ((0, 0), (4, 0), (8, 2))
        later = tuple(sorted(sums(plays, ((0, 60), (9, 63), (20, 30)))))
        check_call(self, told_writing, ((plays, ((0, 60), (9, 63), (20, 30))),), points=later)
        # What is less as a pair stands first: the pitch is looked at behind the onset.
        other = tuple(sorted(sums(((0, 0), (3, -5), (9, 9)), ((0, 60), (0, 61), (2, 70)))))
        wanted = told_steps(other, told_closed)[0]
        self.assertEqual(wanted[0][0], ((0, 0), (0, 1), (2, 10)))
        check_call(self, told_writing, wanted, points=other)

    def test_equal_savings_are_none(self):
        for points in (((0, 0), (0, 4), (3, 0), (3, 4)), ((0, 0), (1, 0), (2, 0)), ((5, 5), (6, 7))):
            check_call(self, told_writing, ((ONE, points),), points=points)

    def test_themes_too_far(self):
        # The theme and its plays save as much, and the theme is less; if it is too far, the plays are the theme.
        for own, plays in ((((-5000, 0), (-4999, 1), (4999, 0)), ((0, 0), (1, 3), (2, 9))),
                           (((0, -5000), (1, 4999), (2, 0)), ((0, 0), (100, 3), (200, 9))),
                           (((0, 5000), (1, -4999), (2, 0)), ((0, 0), (100, 3), (200, 9)))):
            points = tuple(sorted(sums(own, plays)))
            wanted = ((moved(own, (-own[0][0], -own[0][1])), moved(plays, own[0])),)
            check_call(self, told_writing, wanted, points=points)
            self.assertEqual(told_steps(points, told_closed)[0], wanted)
            further = tuple([(x, y + (y == 4999) - (y == -4999)) if y else (x + (x == 4999), y) for x, y in own])
            self.assertNotEqual(further, own)
            points = tuple(sorted(sums(further, plays)))
            check_call(self, told_writing, ((plays, further),), points=points)
            self.assertEqual(told_steps(points, told_closed)[0], ((plays, further),))

    def test_shifts_may_be_as_far_as_they_are(self):
        corners = tuple([(x, y) for x in (-9999, 9999) for y in (-9999, -9998, 9998, 9999)])
        wanted = ((((0, 0), (0, 1)), ((-9999, -9999), (-9999, 9998), (9999, -9999), (9999, 9998))),)
        check_call(self, told_writing, wanted, points=corners)

    def test_shifts_are_led_along(self):
        for points in some_points(60, 3):
            told = told_writing(points)
            for shift in ((100, -30), (-800, 900), (0, -9000)):
                wanted = tuple([(theme, moved(shifts, shift)) for theme, shifts in told])
                check_call(self, told_writing, wanted, points=moved(points, shift))

    def test_numbers_beyond_those_of_scores(self):
        points = tuple(sorted(moved(TUNE, (-9999, -10063)) + moved(TUNE, (9989, 9933))))
        wanted, _ = told_steps(points, told_closed_of_18)
        check_call(self, told_writing, wanted, points=points)

    def test_just_300_and_301(self):
        for onsets, slope in ((JUST_300, 0), (JUST_300, -40), (JUST_301, 0), (JUST_301, 40)):
            points = tuple([(x - 9, slope * x - 60) for x in onsets])
            if onsets == JUST_300:
                wanted, counts = told_steps(points, told_closed)
                self.assertEqual(counts[0], 300)
                check_call(self, told_writing, wanted, points=points)
            else:
                check_call(self, told_writing, TooMany(300), points=points)

    def test_300_at_a_later_time(self):
        many, others, counts = THEN_300
        points = with_row(many, others)
        wanted, found = told_steps(points, closed_quickly)
        self.assertEqual(found, counts)
        check_call(self, told_writing, wanted, points=points)

    def test_too_many_at_a_later_time(self):
        for many, others in THEN_TOO_MANY:
            points = with_row(many, others)
            self.assertLess(len(closed_quickly(points)), 40)
            check_call(self, told_writing, TooMany(300), points=points)

    def test_60_points(self):
        row = tuple(flat(60))
        wanted, _ = told_steps(row, closed_quickly)
        check_call(self, told_writing, wanted, points=row)
        grid = tuple(sorted(sums(flat(6, 0), [(10 * k * k, 7 * k) for k in range(10)])))
        self.assertEqual(size(told_writing(grid)), 16)
        check_call(self, told_writing, ((tuple(flat(6, 0)), tuple([(10 * k * k, 7 * k) for k in range(10)])),), points=grid)


def told_closed_of_18(points):
    """Return the closed pairs of points that are too far for a score, led to where they are none too far."""
    pairs = closed_quickly(moved(points, (9999, 9999)))
    return tuple([(moved(own, (-9999, -9999)), shifts) for own, shifts in pairs])


class LeastWritingTest(unittest.TestCase):
    def check_least(self, points):
        """Check that a writing of points is returned, not greater than that of told_writing; return its size."""
        check_names(self, least_writing, ["points"])
        found = least_writing(points)
        self.assertTrue(same(found, least_writing(points=points)))
        self.assertIsNone(writing_error(points, found))
        self.assertLessEqual(size(found), size(told_writing(points)))
        return size(found)

    def test_beside_all_writings(self):
        seen = {}
        dice = random.Random(4)
        for points in some_points(120, 5):
            own = tuple(sorted(dice.sample(points, min(len(points), dice.choice((3, 4, 5, 5))))))
            wanted = least_size(own) if own else 0
            self.assertEqual(self.check_least(own), wanted, own)
            seen[len(own), wanted] = True
        for key in ((0, 0), (1, 2), (3, 4), (4, 4), (4, 5), (5, 5), (5, 6)):
            self.assertIn(key, seen)

    def test_some_of_six(self):
        for points, wanted in ((tuple(flat(6)), 5), (((0, 0), (0, 1), (5, 0), (5, 1), (9, 4), (9, 5)), 5),
                               (((0, 0), (0, 1), (5, 0), (5, 1), (9, 4), (20, 5)), None)):
            found = self.check_least(points)
            self.assertEqual(found, wanted or found)
            self.assertEqual(found, least_size(points))

    def test_some_of_eight(self):
        for points, wanted in ((tuple(flat(8)), 6), (tuple(sorted(flat(4) + flat(4, 61))), 6), (TUNE[:8], 7),
                               (tuple([(k * k, k) for k in range(8)]), 9), (tuple([(0, k) for k in range(8)]), 6),
                               (tuple(sorted(sums(((0, 0), (1, 5)), [(3 ** k, 0) for k in range(4)]))), 6),
                               (tuple(sorted(sums(((0, 0), (1, 5), (2, 3)), [(0, 0), (100, 0)]) | {(3, 50), (9, 90)})), 8)):
            self.assertEqual(self.check_least(points), wanted)

    def test_none_and_one(self):
        check_call(self, least_writing, (), points=())
        for point in ((0, 0), (9999, -9999), (-9999, 9999)):
            check_call(self, least_writing, ((ONE, (point,)),), points=(point,))

    def test_too_many(self):
        for many in (9, 10, 30, 60):
            check_call(self, least_writing, TooMany(8), points=tuple(flat(many)))
        for many in range(0, 9):
            self.check_least(tuple(flat(many)))

    def test_themes_too_far(self):
        # Two points, 10000 from each other, twice: they can be no theme, but their plays can.
        self.assertEqual(self.check_least(((-5000, 0), (-4999, 0), (5000, 0), (5001, 0))), 4)
        found = least_writing(((-5000, 0), (-4999, 0), (5000, 0), (5001, 0)))
        self.assertEqual(found, ((((0, 0), (1, 0)), ((-5000, 0), (5000, 0))),))
        self.assertEqual(self.check_least(((-9999, 0), (-9998, 7), (9998, 0), (9999, 7))), 4)
        # Neither of both can be a theme.
        corners = ((-9999, -9999), (-9999, 9999), (9999, -9999), (9999, 9999))
        self.assertEqual(self.check_least(corners), 5)
        self.assertEqual(self.check_least(tuple([(x + 1 if x < 0 else x - 1, y) for x, y in corners])), 5)
        self.assertEqual(self.check_least(((-5000, -9999), (-5000, 9999), (4999, -9999), (4999, 9999))), 4)

    def test_never_greater_than_told(self):
        for points in some_points(150, 6):
            self.check_least(points[:8])


if __name__ == "__main__":
    unittest.main()
