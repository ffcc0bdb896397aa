"""How closed pairs lie in one another, and the front: heardagain.fronts, [E6] to [E8]."""

import random
import unittest

from heardagain.closed import closed_error, closed_of, closed_pairs
from heardagain.errors import TooMany
from heardagain.fronts import front, lies_in, most_places, most_points, nearest_in
from heardagain.scores import points_of
from tests.helper import (JUST_300, JUST_301, all_lots, check_call, check_examples, check_names, flat, same, score_at,
                          some_points, told_closed, told_shifts)

EXAMPLES = """
    >>> from heardagain.closed import closed_error, closed_of, closed_pairs, shifts_of
    >>> song = ((0, 60, 0, 1), (1, 62, 0, 1), (4, 60, 0, 1), (5, 62, 0, 2), (8, 67, 0, 4))
    >>> pairs = closed_pairs(song)
    >>> from heardagain.fronts import front, lies_in, most_places, most_points, nearest_in
    >>> lies_in(pairs[0], pairs[1]), lies_in(pairs[1], pairs[2]), lies_in(pairs[2], pairs[2]), nearest_in(song)
    ((0, 0), None, (0, 0), ((0, 1), (0, 2)))
    >>> more = ((0, 5, 0, 1), (1, 7, 0, 1), (2, 9, 0, 1))
    >>> [F for F, T in closed_pairs(more)], nearest_in(more)
    ([((0, 5),), ((0, 5), (1, 7))], ((0, 1),))
    >>> front(song), front(more), front(song[:1])
    (((2, 2), (5, 1)), ((2, 2), (3, 1)), ())
    >>> len(most_points(song, 2)[0]), most_points(song, 3) == pairs[0], most_points(song, 6)
    (2, True, None)
    >>> len(most_places(song, 2)[1]), most_places(song, 0) == pairs[0], most_places(song, 3)
    (2, True, None)
"""

SONG = ((0, 60, 0, 1), (1, 62, 0, 1), (4, 60, 0, 1), (5, 62, 0, 2), (8, 67, 0, 4))
HUGE = 10 ** 399
NUMBERS = (-HUGE, -5, -1, 0, 1, 2, 3, 4, 5, 6, 7, 8, 9, 10, 59, 60, 61, HUGE)


def some_scores(many, seed):
    """Return so many scores of at most nine points, and some of more."""
    dice = random.Random(seed)
    lots = some_points(many, seed) + [tuple(flat(12)), tuple(flat(8) + flat(8, 64)), tuple([(x, 60) for x in JUST_300[:11]])]
    return [tuple(sorted({point + (voice, 2) for point in points for voice in dice.choice(((0,), (3, 4)))}))
            for points in lots]


def told_in(pair, other):
    """Return the least shift by which a closed pair lies in another one, of all that could be."""
    (own, _), (wide, _) = pair, other
    found = [(end - x, high - y) for x, y in own for end, high in wide]
    return min([(dx, dy) for dx, dy in found if {(x + dx, y + dy) for x, y in own} <= set(wide)], default=None)


def told_front(numbers):
    """Return the pairs of numbers than which none has as many of both, and more of one."""
    return tuple(sorted({one for one in numbers if not [two for two in numbers
                                                        if two != one and two[0] >= one[0] and two[1] >= one[1]]}))


class ExamplesTest(unittest.TestCase):
    def test_examples(self):
        self.assertEqual(check_examples(self, EXAMPLES), 5)


class LiesInTest(unittest.TestCase):
    def test_as_the_words_tell(self):
        seen = {}
        for score in some_scores(60, 1):
            pairs = closed_pairs(score)
            for place, pair in enumerate(pairs[:14]):
                for further, other in enumerate(pairs[-14:]):
                    wanted = told_in(pair, other)
                    check_call(self, lies_in, wanted, pair=pair, other=other)
                    seen[wanted is None, wanted == (0, 0), place == further] = True
        self.assertGreaterEqual(len(seen), 5)

    def test_the_least_shift(self):
        pairs = closed_pairs(score_at(flat(9)))
        check_call(self, lies_in, (0, 0), pair=pairs[1], other=pairs[6])
        check_call(self, lies_in, None, pair=pairs[6], other=pairs[1])
        # The short one lies in the long one as it stands, a single point in the short one later and lower.
        score = score_at([(0, 70), (7, 60), (9, 61), (20, 60), (22, 61), (100, 70), (107, 60), (109, 61), (120, 60),
                          (122, 61)])
        pairs = closed_pairs(score)
        short = [pair for pair in pairs if pair[0] == ((7, 60), (9, 61))][0]
        long = [pair for pair in pairs if len(pair[0]) == 5][0]
        check_call(self, lies_in, (0, 0), pair=short, other=long)
        self.assertEqual(pairs[0][0], ((0, 70),))
        check_call(self, lies_in, (7, -10), pair=pairs[0], other=short)
        check_call(self, lies_in, (0, 0), pair=long, other=long)
        check_call(self, lies_in, None, pair=long, other=short)

    def test_shifts_are_never_below_0(self):
        # Closed pairs stand where they are heard first, but what they lie in may be lower.
        found = {}
        for score in some_scores(200, 2):
            pairs = closed_pairs(score)
            for pair in pairs:
                for other in pairs:
                    shift = lies_in(pair, other)
                    self.assertEqual(shift, told_in(pair, other))
                    if shift is not None:
                        found[shift < (0, 0), shift > (0, 0), shift[1] < 0] = True
        self.assertEqual(sorted(found), [(False, False, False), (False, True, False), (False, True, True)])

    def test_in_one_another(self):
        for score in some_scores(60, 3):
            for pair in closed_pairs(score):
                for other in closed_pairs(score):
                    if lies_in(pair, other) is not None and pair != other:
                        self.assertIsNone(lies_in(other, pair))
                        self.assertLess(len(pair[0]), len(other[0]))
                        self.assertGreater(len(pair[1]), len(other[1]))


class NearestInTest(unittest.TestCase):
    def test_as_the_words_tell(self):
        told = 0
        for score in some_scores(120, 4):
            pairs = told_closed(points_of(score))
            own = {(one, two) for one, pair in enumerate(pairs) for two, other in enumerate(pairs)
                   if one != two and told_in(pair, other) is not None}
            wanted = [(one, two) for one, two in sorted(own)
                      if not [mid for mid in range(len(pairs)) if (one, mid) in own and (mid, two) in own]]
            check_call(self, nearest_in, tuple(wanted), score=score)
            told += len(own) > len(wanted) > 0
        self.assertGreater(told, 20)

    def test_rows_and_few_points(self):
        check_call(self, nearest_in, (), score=())
        check_call(self, nearest_in, (), score=SONG[:1])
        check_call(self, nearest_in, (), score=SONG[:2])
        check_call(self, nearest_in, tuple([(k, k + 1) for k in range(58)]), score=score_at(flat(60)))


class FrontTest(unittest.TestCase):
    def check_pair(self, function, score, many, wanted):
        """Check that a closed pair with such numbers of shifts and points is returned, or None."""
        check_names(self, function, ["score", "many"])
        found = function(score, many)
        self.assertTrue(same(found, function(score=score, many=many)))
        if wanted is None:
            self.assertIsNone(found)
        else:
            self.assertIsNone(closed_error(score, found))
            self.assertEqual((len(found[1]), len(found[0])), wanted, (score, many))

    def check_all(self, score, numbers):
        """Check front, most_points and most_places against numbers of shifts and points."""
        check_call(self, front, told_front(numbers), score=score)
        for many in NUMBERS:
            found = [points for shifts, points in numbers if shifts >= many]
            closed = [pair for pair in closed_pairs(score) if len(pair[1]) >= many]
            self.assertEqual(max(found, default=None), max([len(pair[0]) for pair in closed], default=None))
            pair = most_points(score, many)
            wanted = None if pair is None or not found else (len(pair[1]), max(found))
            self.assertEqual(pair is None, not found)
            self.check_pair(most_points, score, many, wanted)
            self.assertTrue(pair is None or len(pair[1]) >= many)
            found = [shifts for shifts, points in numbers if points >= many]
            pair = most_places(score, many)
            wanted = None if pair is None or not found else (max(found), len(pair[0]))
            self.assertEqual(pair is None, not found)
            self.check_pair(most_places, score, many, wanted)
            self.assertTrue(pair is None or len(pair[0]) >= many)

    def test_beside_all_lots_of_points(self):
        # What [E8] says: the front bounds all points, not closed pairs alone.
        for score in some_scores(80, 5)[:-2]:
            heard = points_of(score)
            numbers = {(len(told_shifts(heard, lot)), len(lot)) for lot in all_lots(heard)}
            self.check_all(score, {one for one in numbers if one[0] > 1})

    def test_beside_all_closed_pairs(self):
        seen = {}
        for score in some_scores(80, 6):
            numbers = {(len(shifts), len(own)) for own, shifts in told_closed(points_of(score))}
            self.check_all(score, numbers)
            seen[len(told_front(numbers))] = True
        for many in (0, 1, 2, 3, 4):
            self.assertIn(many, seen)

    def test_none(self):
        for score in ((), SONG[:1], ((5, 5, 0, 1), (5, 5, 3, 1))):
            check_call(self, front, (), score=score)
            for many in NUMBERS:
                check_call(self, most_points, None, score=score, many=many)
                check_call(self, most_places, None, score=score, many=many)

    def test_beyond_all(self):
        row = score_at(flat(60))
        check_call(self, front, tuple([(many, 61 - many) for many in range(2, 61)]), score=row)
        for many in (61, 62, HUGE):
            check_call(self, most_points, None, score=row, many=many)
            check_call(self, most_places, None, score=row, many=many)
        check_call(self, most_places, None, score=row, many=60)
        for many in (-HUGE, -1, 0, 1):
            self.check_pair(most_points, row, many, (2, 59))
            self.check_pair(most_places, row, many, (60, 1))
        self.check_pair(most_points, row, 2, (2, 59))
        self.check_pair(most_points, row, 60, (60, 1))
        self.check_pair(most_places, row, 59, (2, 59))

    def test_too_many(self):
        for onsets, slope in ((JUST_300, 0), (JUST_301, 0), (JUST_301, 2), (JUST_300, -3)):
            score = score_at([(x, 70 + slope * x) for x in onsets])
            for function, told in ((nearest_in, {}), (front, {}), (most_points, {"many": 2}), (most_places, {"many": 99}),
                                   (most_points, {"many": -1})):
                wanted = TooMany(300) if onsets == JUST_301 else function(score, **told)
                check_call(self, function, wanted, score=score, **told)

    def test_other_voices_lengths_and_shifts(self):
        for score in some_scores(60, 7):
            later = tuple(sorted({(x + 70, y - 40, k, 99) for x, y, _, _ in score for k in (1, 6)}))
            check_call(self, front, front(score), score=later)
            check_call(self, nearest_in, nearest_in(score), score=later)
            for many in NUMBERS[2:12]:
                for function, place in ((most_points, 0), (most_places, 1)):
                    one, two = function(score, many), function(later, many)
                    self.assertEqual(one is None, two is None)
                    if one is not None:
                        self.assertEqual(len(one[place]), len(two[place]))

    def test_what_holds_of_points(self):
        # Points with many shifts are never more, and never have more shifts.
        for score in some_scores(40, 8)[:-2]:
            heard = points_of(score)
            for lot in all_lots(heard):
                shifts = told_shifts(heard, lot)
                if len(shifts) > 1:
                    self.assertLessEqual(len(lot), len(most_points(score, len(shifts))[0]))
                    self.assertLessEqual(len(shifts), len(most_places(score, len(lot))[1]))
                    own = closed_of(score, lot)
                    self.assertTrue([one for one in front(score) if one[0] >= len(own[1]) and one[1] >= len(own[0])])


if __name__ == "__main__":
    unittest.main()
