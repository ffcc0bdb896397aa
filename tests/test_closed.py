"""Closed pairs: heardagain.closed, [E1] to [E5] and [E8]."""

import random
import unittest

from heardagain.closed import closed_error, closed_of, closed_pairs, shifts_of
from heardagain.errors import TooMany, Unfit
from heardagain.points import points_error
from heardagain.scores import points_of
from tests.helper import (JUST_300, JUST_301, ODD_VALUES, all_lots, check_call, check_examples, flat, raised, same,
                          same_error, score_at, some_points, told_closed, told_shifts)

EXAMPLES = """
    >>> from heardagain.closed import closed_error, closed_of, closed_pairs, shifts_of
    >>> song = ((0, 60, 0, 1), (1, 62, 0, 1), (4, 60, 0, 1), (5, 62, 0, 2), (8, 67, 0, 4))
    >>> shifts_of(song, ((0, 60), (1, 62))), shifts_of(song, ((3, 3), (4, 4)))
    (((0, 0), (4, 0)), ())
    >>> shifts_of(song, ((0, 0),))
    ((0, 60), (1, 62), (4, 60), (5, 62), (8, 67))
    >>> closed_of(song, ((10, 0), (11, 2)))
    (((0, 60), (1, 62)), ((0, 0), (4, 0)))
    >>> closed_of(song, ((4, 60),))
    (((0, 60),), ((0, 0), (1, 2), (4, 0), (5, 2), (8, 7)))
    >>> closed_of(song, ((0, 60), (8, 67)))
    raises Unfit()
    >>> shifts_of(song, ())
    raises Unfit()
    >>> first, second = ((0, 60), (1, 62)), ((0, 60), (4, 60))
    >>> [closed_error(song, value) for value in ((first, ((0, 0), (4, 0))), [first, ((0, 0), (4, 0))], ((), ((0, 0), (4, 0))), (first, ((0, 0),)))]
    [None, 'form', 'points', 'shifts']
    >>> closed_error(song, (((4, 60), (5, 62)), ((-4, 0), (0, 0)))), closed_error(song, (first, ((0, 0), (1, 2))))
    ('least', ('place', (1, 62), (1, 2)))
    >>> closed_error(song, (first[:1], ((0, 0), (4, 0)))), closed_error(song, (first[:1], ((0, 0), (1, 2), (4, 0))))
    (('point', (1, 62)), ('shift', (5, 2)))
    >>> pairs = closed_pairs(song)
    >>> [F for F, T in pairs], [T for F, T in pairs][1:]
    ([((0, 60),), ((0, 60), (1, 62)), ((0, 60), (4, 60))], [((0, 0), (4, 0)), ((0, 0), (1, 2))])
    >>> closed_pairs(song[:1]), closed_pairs(()), closed_pairs(song[:1] + song[4:])
    ((), (), ((((0, 60),), ((0, 0), (8, 7))),))
"""

SONG = ((0, 60, 0, 1), (1, 62, 0, 1), (4, 60, 0, 1), (5, 62, 0, 2), (8, 67, 0, 4))
FIRST, TWICE = ((0, 60), (1, 62)), ((0, 0), (4, 0))
HUGE = 10 ** 399


def some_scores(many, seed):
    """Return so many scores of at most nine points, some with several voices at a point."""
    dice = random.Random(seed)
    return [tuple(sorted({point + (voice, 1 + voice) for point in points for voice in dice.choice(((0,), (1,), (2, 5)))}))
            for points in some_points(many, seed)]


def moved(points, shift):
    """Return points led by a shift."""
    return tuple([(x + shift[0], y + shift[1]) for x, y in points])


def told_error(score, value):
    """Return what the words of [E4] tell of a value, step by step."""
    if type(value) is not tuple or len(value) != 2:
        return "form"
    own, shifts = value
    if points_error(own) is not None or own == ():
        return "points"
    pairs = type(shifts) is tuple and all(type(one) is tuple and [type(item) for item in one] == [int, int]
                                          for one in shifts)
    if not pairs or len(shifts) < 2 or list(shifts) != sorted(set(shifts)):
        return "shifts"
    if shifts[0] != (0, 0):
        return "least"
    heard = points_of(score)
    wrong = [(point, shift) for point in own for shift in shifts if moved((point,), shift)[0] not in heard]
    if wrong:
        return ("place",) + min(wrong)
    further = [point for point in heard if point not in own and set(moved(shifts, point)) <= set(heard)]
    if further:
        return ("point", min(further))
    further = [shift for shift in told_shifts(heard, own) if shift not in shifts]
    return ("shift", min(further)) if further else None


class ExamplesTest(unittest.TestCase):
    def test_examples(self):
        self.assertEqual(check_examples(self, EXAMPLES), 11)


class ShiftsOfTest(unittest.TestCase):
    def test_as_the_words_tell(self):
        for score in some_scores(40, 1):
            heard = points_of(score)
            for lot in all_lots(heard)[:80]:
                for shift in ((0, 0), (-7, 12), (5000, -9000)):
                    points = moved(lot, shift)
                    wanted = tuple([(dx - shift[0], dy - shift[1]) for dx, dy in told_shifts(heard, lot)])
                    check_call(self, shifts_of, wanted, score=score, points=points)

    def test_points_that_are_not_there(self):
        dice = random.Random(2)
        for score in some_scores(40, 2):
            points = tuple(sorted({(dice.randint(-4, 4), dice.randint(-4, 4)) for _ in range(dice.randint(1, 4))}))
            check_call(self, shifts_of, told_shifts(points_of(score), points), score=score, points=points)
        check_call(self, shifts_of, (), score=SONG, points=((-9999, -9999), (9999, 9999)))
        check_call(self, shifts_of, (), score=SONG, points=tuple(flat(60)))
        check_call(self, shifts_of, (), score=(), points=FIRST)

    def test_all_points_and_single_ones(self):
        for score in some_scores(40, 3):
            points = points_of(score)
            if points:
                check_call(self, shifts_of, ((0, 0),), score=score, points=points)
            for x, y in points:
                check_call(self, shifts_of, moved(points, (-x, -y)), score=score, points=((x, y),))
        check_call(self, shifts_of, tuple([(x + 9999, y - 9999) for x, y in points_of(SONG)]), score=SONG,
                   points=((-9999, 9999),))

    def test_no_points(self):
        for score in ((), SONG, SONG[:1]):
            check_call(self, shifts_of, Unfit(), score=score, points=())
            check_call(self, closed_of, Unfit(), score=score, points=())

    def test_several_voices_at_one_point(self):
        doubled = tuple(sorted(SONG + ((0, 60, 3, 1), (8, 67, 7, 1))))
        check_call(self, shifts_of, shifts_of(SONG, ((0, 0),)), score=doubled, points=((0, 0),))
        check_call(self, closed_of, closed_of(SONG, FIRST), score=doubled, points=FIRST)


class ClosedOfTest(unittest.TestCase):
    def test_as_the_words_tell(self):
        told = 0
        for score in some_scores(60, 4):
            heard = points_of(score)
            for lot in all_lots(heard)[:120]:
                shifts = told_shifts(heard, lot)
                wanted = Unfit()
                if len(shifts) > 1:
                    own = moved(shifts, (-shifts[0][0], -shifts[0][1]))
                    wanted = (tuple([point for point in heard if set(moved(own, point)) <= set(heard)]), own)
                    told += wanted[0] != lot
                check_call(self, closed_of, wanted, score=score, points=lot)
                check_call(self, closed_of, wanted, score=score, points=moved(lot, (-800, 77)))
        self.assertGreater(told, 200)

    def test_fewer_than_two_shifts(self):
        for points in (((0, 60), (8, 67)), points_of(SONG), ((3, 3), (4, 4)), ((0, 0), (0, 1))):
            check_call(self, closed_of, Unfit(), score=SONG, points=points)
        check_call(self, closed_of, Unfit(), score=(), points=((0, 0),))
        check_call(self, closed_of, Unfit(), score=SONG[:1], points=((0, 60),))


class ClosedErrorTest(unittest.TestCase):
    def check(self, wanted, value, score=SONG):
        """Check what is told of a value, and that the words tell the same."""
        check_call(self, closed_error, wanted, score=score, value=value)
        self.assertEqual(told_error(score, value), wanted)

    def test_form(self):
        for value in ODD_VALUES + ([FIRST, TWICE], (FIRST,), (FIRST, TWICE, ()), FIRST + TWICE, {FIRST: TWICE}, "ab"):
            if type(value) is not tuple or len(value) != 2:
                self.check("form", value)
                self.check("form", value, ())

    def test_points(self):
        wrong = ODD_VALUES + (list(FIRST), FIRST[::-1], FIRST + FIRST, ((0, 60), (1, 10000)), ((0, 60), (True, 62)),
                              ((False, 60), (1, 62)), ([0, 60], (1, 62)), tuple(flat(61)), ((0, 60, 0, 1),), (FIRST,))
        for own in wrong:
            for shifts in (TWICE, None, (), ((0, 0),)):
                self.check("points", (own, shifts))

    def test_shifts(self):
        wrong = ODD_VALUES + (list(TWICE), TWICE[:1], TWICE[::-1], TWICE + TWICE, ((0, 0), [4, 0]), ((0, 0), (4, False)),
                              ((0, 0), (True, 0)), ((0, 0), (4, 0, 0)), ((0, 0), (4,)), ((0, 0), 4), ((0, 0), (0, 0)),
                              ((-4, 0),), ((4, 0), (0, 0)), ((0, 0), (4, "0")), ((False, 0), (4, 0)), (TWICE, TWICE))
        for shifts in wrong:
            for own in (FIRST, FIRST[:1], ((50, 50),)):
                self.check("shifts", (own, shifts))

    def test_least(self):
        for shifts in (((-4, 0), (0, 0)), ((1, 0), (4, 0)), ((0, 1), (4, 0)), ((-1, 9), (0, 0), (4, 0)),
                       ((-HUGE, HUGE), (0, 0)), ((HUGE, 0), (HUGE, 1))):
            for own in (FIRST, ((50, 50),), ((4, 60), (5, 62))):
                self.check("least", (own, shifts))

    def test_place(self):
        self.check(("place", (1, 62), (1, 2)), (FIRST, ((0, 0), (1, 2))))
        self.check(("place", (0, 60), (2, 2)), (FIRST, ((0, 0), (2, 2), (3, 3), (4, 0))))
        # The point is looked at ahead of the shift: all shifts of the first one come first.
        self.check(("place", (0, 60), (7, 7)), (FIRST, ((0, 0), (1, 2), (7, 7))))
        self.check(("place", (0, 61), (0, 0)), (((0, 61), (1, 62)), TWICE))
        self.check(("place", (-5, 0), (0, 0)), (((-5, 0), (0, 60)), TWICE))
        self.check(("place", (0, 60), (HUGE, -HUGE)), (FIRST, ((0, 0), (4, 0), (HUGE, -HUGE))))
        self.check(("place", (0, 60), (0, 0)), (((0, 60),), TWICE), ())
        # A further point and a further shift are there as well, and told later.
        self.check(("place", (0, 60), (9, 9)), (((0, 60),), ((0, 0), (4, 0), (9, 9))))

    def test_further(self):
        self.check(("point", (1, 62)), (FIRST[:1], TWICE))
        self.check(("point", (0, 60)), (FIRST[1:], TWICE))
        self.check(("point", (4, 60)), (FIRST[:1], ((0, 0), (1, 2))))
        self.check(("shift", (5, 2)), (FIRST[:1], ((0, 0), (1, 2), (4, 0))))
        self.check(("shift", (8, 7)), (FIRST[:1], ((0, 0), (1, 2), (4, 0), (5, 2))))
        self.check(None, (FIRST[:1], ((0, 0), (1, 2), (4, 0), (5, 2), (8, 7))))
        row = score_at(flat(4))
        # The least further point is told, and a further point ahead of a further shift.
        self.check(("point", (1, 60)), (((0, 60),), ((0, 0), (1, 0))), row)
        self.check(("point", (0, 60)), (((1, 60),), ((0, 0), (1, 0))), row)
        # Points that are heard ahead of their own place have a further shift below (0, 0).
        thrice = score_at([(0, 0), (10, 0), (20, 0), (5, 3)])
        self.check(("shift", (-5, -3)), (((5, 3),), ((0, 0), (15, -3))), thrice)

    def test_true_is_not_1(self):
        row = score_at(flat(2, 1))
        self.check(None, (((0, 1),), ((0, 0), (1, 0))), row)
        for value, wanted in (((((0, True),), ((0, 0), (1, 0))), "points"), ((((False, 1),), ((0, 0), (1, 0))), "points"),
                              ((((0, 1),), ((0, 0), (True, 0))), "shifts"), ((((0, 1),), ((0, False), (1, 0))), "shifts")):
            self.check(wanted, value, row)

    def test_several_faults_at_once(self):
        for value, wanted in (
                ([(), ()], "form"), (((), (), ()), "form"), (((), ()), "points"), ((FIRST[::-1], TWICE[::-1]), "points"),
                ((FIRST, ((4, 0), (4, 0))), "shifts"), ((((90, 9),), ((4, 0),)), "shifts"),
                ((((90, 9),), ((4, 0), (5, 0))), "least"), ((((90, 9),), TWICE), ("place", (90, 9), (0, 0)))):
            self.check(wanted, value)

    def test_as_the_words_tell(self):
        dice = random.Random(5)
        seen = {}
        for score in some_scores(80, 5):
            for own, shifts in told_closed(points_of(score)):
                self.check(None, (own, shifts), score)
                for value in ((own[1:], shifts), (own[:-1], shifts), (own, shifts[:-1]), (own, shifts[:1] + shifts[2:]),
                              (own, shifts + ((50, 0),)), (own + ((60, 5),), shifts), (own[:1], shifts[:2]),
                              (moved(own, shifts[1]), shifts), (moved(own, shifts[-1]), moved(shifts, (-1, 0))),
                              (tuple(dice.sample(own, len(own))), shifts), (own, shifts[1:])):
                    wanted = told_error(score, value)
                    self.assertTrue(same(closed_error(score, value), wanted), (score, value))
                    seen[wanted[0] if type(wanted) is tuple else wanted] = True
        for word in ("points", "shifts", "least", "place", "point", "shift"):
            self.assertIn(word, seen)

    def test_many_items(self):
        far = tuple([(k, 0) for k in range(1900)])
        self.check(("place", (0, 60), (1, 0)), (FIRST[:1], far))
        self.check(("place", (0, 60), (1, 0)), (tuple(flat(60)), far[:1000]), SONG)


class ClosedPairsTest(unittest.TestCase):
    def test_as_the_words_tell(self):
        told = {}
        for score in some_scores(200, 6):
            wanted = told_closed(points_of(score))
            check_call(self, closed_pairs, wanted, score=score)
            told[len(wanted)] = True
        self.assertGreater(len(told), 9)

    def test_one_point_or_none(self):
        for score in ((), SONG[:1], ((5, 5, 0, 1), (5, 5, 1, 2), (5, 5, 7, 3))):
            check_call(self, closed_pairs, (), score=score)
        check_call(self, closed_pairs, ((((5, 5),), ((0, 0), (0, 1))),), score=score_at([(5, 5), (5, 6)]))

    def test_rows_and_grids(self):
        for many in (2, 3, 10, 60):
            wanted = tuple([(tuple(flat(own)), tuple(flat(many - own + 1, 0))) for own in range(1, many)])
            check_call(self, closed_pairs, wanted, score=score_at(flat(many)))
        grid = score_at([(x, 60 + y) for x in range(10) for y in range(6)])
        found = closed_pairs(grid)
        self.assertEqual(len(found), 59)
        for own, shifts in found:
            wide, high = own[-1][0] + 1, own[-1][1] - 59
            self.assertEqual((len(own), len(shifts)), (wide * high, (11 - wide) * (7 - high)))

    def test_points_of_which_no_two_lie_alike(self):
        score = score_at([(3 ** k, 60) for k in range(8)] + [(0, k * k) for k in range(8)])
        self.assertEqual([(len(own), len(shifts)) for own, shifts in closed_pairs(score)][0], (1, 16))
        check_call(self, closed_pairs, told_closed(points_of(score)), score=score)

    def test_just_300_and_301(self):
        for onsets, many in ((JUST_300, 300), (JUST_301, 301)):
            for slope in (0, 2, -3):
                points = tuple([(2 * x + 5, 70 + slope * x) for x in onsets])
                score = score_at(points)
                self.assertEqual(len(told_closed(points)), many)
                wanted = TooMany(300) if many > 300 else told_closed(points)
                check_call(self, closed_pairs, wanted, score=score)

    def test_one_point_more_than_300_tell(self):
        # A point that is far from all others brings no further closed pair; one more of the row brings some.
        row = [(x, 60) for x in JUST_300]
        self.assertEqual(len(closed_pairs(score_at(row + [(5000, 3)]))), 300)
        self.assertTrue(same_error(raised(lambda: closed_pairs(score_at(row + [(22, 60)]))), TooMany(300)))

    def test_far_too_many(self):
        dice = random.Random(7)
        for wide, high in ((90, 1), (12, 8), (40, 2), (30, 30)):
            points = [(dice.randrange(wide), dice.randrange(high)) for _ in range(200)]
            score = score_at(sorted(set(points))[:60])
            check_call(self, closed_pairs, TooMany(300), score=score)

    def test_the_others_raise_no_too_many(self):
        score = score_at([(x, 60) for x in JUST_301])
        self.assertEqual(len(shifts_of(score, ((0, 0),))), 17)
        own = closed_of(score, ((5, 60), (6, 60)))
        check_call(self, closed_error, None, score=score, value=own)


class HoldsTest(unittest.TestCase):
    """What [A2] (c) and [E8] say of closed pairs."""

    def test_just_one_closed_pair_with_the_same_places(self):
        for score in some_scores(60, 8):
            heard = points_of(score)
            pairs = closed_pairs(score)
            for lot in all_lots(heard):
                shifts = told_shifts(heard, lot)
                if len(shifts) > 1:
                    first = set(moved(lot, shifts[0]))
                    own = [pair for pair in pairs if first <= set(pair[0]) and len(pair[1]) == len(shifts)]
                    self.assertEqual(own, [closed_of(score, lot)])

    def test_closed_pairs_are_those_of_their_first_items(self):
        for score in some_scores(80, 9):
            for own, shifts in closed_pairs(score):
                check_call(self, closed_of, (own, shifts), score=score, points=own)
                self.assertIsNone(closed_error(score, (own, shifts)))

    def test_just_what_is_let_by_is_told(self):
        for score in some_scores(25, 10):
            heard = points_of(score)
            values = [(lot, told_shifts(heard, lot)) for lot in all_lots(heard)]
            values.extend([(lot, shifts[1:]) for lot, shifts in values])
            let_by = sorted([value for value in values if closed_error(score, value) is None])
            self.assertEqual(tuple(let_by), closed_pairs(score))

    def test_led_by_a_shift(self):
        for score in some_scores(60, 11):
            later = tuple([(x + 100, y - 45, voice, length) for x, y, voice, length in score])
            wanted = tuple([(moved(own, (100, -45)), shifts) for own, shifts in closed_pairs(score)])
            check_call(self, closed_pairs, wanted, score=later)

    def test_other_voices_and_lengths(self):
        for score in some_scores(60, 12):
            changed = tuple(sorted({(x, y, k, 99) for x, y, _, _ in score for k in (0, 6)}))
            check_call(self, closed_pairs, closed_pairs(score), score=changed)


if __name__ == "__main__":
    unittest.main()
