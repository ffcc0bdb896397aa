"""Fractions, moves and kinds: heardagain.moves, [B1] to [B5]."""

import random
import unittest
from fractions import Fraction
from math import gcd

from heardagain.errors import NoKind
from heardagain.moves import behind, fraction_error, is_of, lands, led, move_error, undone
from tests.helper import KINDS, NO_KINDS, ODD_VALUES, STILL, as_move, check_call, check_examples, same, some_moves

EXAMPLES = """
    >>> from heardagain.moves import behind, fraction_error, is_of, lands, led, move_error, undone
    >>> fraction_error((1, 2)), fraction_error((0, 3)), fraction_error((1, 0)), fraction_error([1, 2]), fraction_error((True, 1))
    (None, 'terms', 'below', 'form', 'form')
    >>> up, half, turn = ((1, 1), (3, 1), 1, 5), ((1, 2), (0, 1), 1, 0), ((-1, 1), (4, 1), -1, 120)
    >>> [move_error(move) for move in (up, half, turn, ((0, 1), 0, 0, 0), ((1, 1), 3, 1, 0), up[:2] + (2, 5), up[:3] + (True,), list(up))]
    [None, None, None, 'q', 't', 'e', 'v', 'form']
    >>> tune = ((0, 60), (2, 64), (4, 62))
    >>> lands(up, (2, 64)), lands(half, (2, 64)), lands(half, (3, 64)), lands(turn, (0, 60)), lands(up, (9999, 0))
    ((5, 69), (1, 64), None, (4, 60), None)
    >>> led(up, tune), led(half, tune), led(half, ((1, 0), (2, 0))), led(turn, tune), led(half, ())
    (((3, 65), (5, 69), (7, 67)), ((0, 60), (1, 64), (2, 62)), None, ((0, 58), (2, 56), (4, 60)), ())
    >>> behind(half, up), behind(up, half), undone(up), undone(half), undone(turn) == turn
    (((1, 2), (3, 1), 1, 5), ((1, 2), (3, 2), 1, 5), ((1, 1), (-3, 1), 1, -5), ((2, 1), (0, 1), 1, 0), True)
    >>> behind(turn, undone(turn)), behind(turn, turn)
    (((1, 1), (0, 1), 1, 0), ((1, 1), (0, 1), 1, 0))
    >>> [is_of(kind, turn) for kind in ("shift", "flip", "back", "both", "slow", "all")], [is_of(kind, half) for kind in ("shift", "slow")]
    ([False, False, False, True, False, True], [False, True])
    >>> is_of("flip", ((1, 1), (1, 2), -1, 0)), is_of("both", up)
    (False, True)
    >>> is_of("fast", up)
    raises NoKind('fast')
"""

HUGE = 10 ** 399
NO_FRACTIONS = ODD_VALUES + ((1, 2, 3), (1, 0), (1, -1), (2, 2), (0, 2), (0, 0), (True, 1), (1, True), [1, 1],
                             (1, "1"), ("1", 1), ((1,), 1), (1, None))


def as_numbers(move):
    """Return a move with its fractions as numbers."""
    q, t, e, v = move
    return Fraction(*q), Fraction(*t), e, v


class ExamplesTest(unittest.TestCase):
    def test_examples(self):
        self.assertEqual(check_examples(self, EXAMPLES), 9)


class ErrorsTest(unittest.TestCase):
    def test_fractions(self):
        for value in ((0, 1), (1, 1), (-1, 1), (1, 2), (-7, 12), (HUGE, 1), (-HUGE, 1), (1, HUGE), (HUGE, HUGE + 1)):
            check_call(self, fraction_error, None, value=value)

    def test_form_of_fractions(self):
        for value in ODD_VALUES + ((1,), (1, 2, 3), (1, 2, 1), [1, 2], (True, 1), (1, True), (False, 0), (1, None),
                                   ("1", 2), (1, "2"), ((1,), 2), (1, [2]), "12", {1: 2}):
            check_call(self, fraction_error, "form", value=value)

    def test_below(self):
        for value in ((1, 0), (0, 0), (1, -1), (-1, -1), (2, -2), (0, -3), (HUGE, -HUGE), (5, 0)):
            check_call(self, fraction_error, "below", value=value)

    def test_terms(self):
        for value in ((0, 2), (0, HUGE), (2, 2), (-2, 2), (6, 4), (-6, 9), (15, 10), (HUGE, 10), (-HUGE, HUGE)):
            check_call(self, fraction_error, "terms", value=value)

    def test_all_small_pairs(self):
        for above in range(-9, 10):
            for below in range(-3, 10):
                wanted = "below" if below < 1 else None if gcd(above, below) == 1 else "terms"
                self.assertEqual(fraction_error((above, below)), wanted)

    def test_moves(self):
        for value in some_moves(60, 1) + [STILL, ((HUGE, 1), (-1, HUGE), -1, HUGE), ((-1, HUGE), (HUGE, 3), 1, -HUGE)]:
            check_call(self, move_error, None, value=value)

    def test_form_of_moves(self):
        for value in ODD_VALUES + (STILL[:3], STILL + (0,), list(STILL), (STILL,), "1111", {1: STILL}):
            wanted = "q" if isinstance(value, tuple) and len(value) == 4 else "form"
            check_call(self, move_error, wanted, value=value)
        check_call(self, move_error, "form", value=(0, 0, 0))

    def test_q(self):
        for q in NO_FRACTIONS + ((0, 1),):
            for rest in (STILL[1:], (None, 0, "")):
                check_call(self, move_error, "q", value=(q,) + rest)

    def test_t(self):
        check_call(self, move_error, None, value=STILL)
        for t in NO_FRACTIONS:
            for rest in (STILL[2:], (0, None)):
                check_call(self, move_error, "t", value=(STILL[0], t) + rest)

    def test_e(self):
        for e in ODD_VALUES + (0, 2, -2, True, False, (1,), (1, 1), "1", 10):
            if same(e, 1) or same(e, -1):
                continue
            for v in (0, None):
                check_call(self, move_error, "e", value=STILL[:2] + (e, v))

    def test_v(self):
        for v in (True, False, None, "0", "", (0,), (0, 1), [], {}, [1], "x"):
            check_call(self, move_error, "v", value=STILL[:3] + (v,))


class LandsTest(unittest.TestCase):
    def test_still(self):
        for point in ((0, 0), (-9999, 9999), (9999, -9999), (3, 60)):
            check_call(self, lands, point, move=STILL, point=point)

    def test_the_bounds(self):
        for q, t in ((1, 0), (1, 5), (-1, -7), (2, 1)):
            for e in (1, -1):
                for far in (9998, 9999, 10000, -9998, -9999, -10000):
                    for move, point, place in (
                            (((q, 1), (t, 1), e, far - e * 3), (4, 3), (q * 4 + t, far)),
                            (((q, 1), (far - q * 4, 1), e, 1), (4, 3), (far, e * 3 + 1))):
                        wanted = place if -9999 <= far <= 9999 else None
                        check_call(self, lands, wanted, move=move, point=point)

    def test_fractional_onsets(self):
        third = ((1, 3), (1, 3), 1, 0)
        for x, wanted in ((-1, (0, 5)), (0, None), (1, None), (2, (1, 5)), (5, (2, 5)), (-4, (-1, 5)), (-3, None)):
            check_call(self, lands, wanted, move=third, point=(x, 5))
        for x, wanted in ((-1, (2, -5)), (0, None), (1, (-1, -5)), (2, None), (3, (-4, -5))):
            check_call(self, lands, wanted, move=((-3, 2), (1, 2), -1, 0), point=(x, 5))
        check_call(self, lands, None, move=((1, 1), (1, 2), 1, 0), point=(0, 0))
        check_call(self, lands, (1, 0), move=((1, 6), (1, 2), 1, 0), point=(3, 0))
        check_call(self, lands, None, move=((1, 6), (1, 3), 1, 0), point=(3, 0))

    def test_huge_moves(self):
        check_call(self, lands, (7, 7), move=((HUGE, 1), (7 - HUGE, 1), 1, 7), point=(1, 0))
        check_call(self, lands, (0, -HUGE % 7), move=((1, HUGE), (0, 1), -1, -HUGE % 7), point=(0, 0))
        check_call(self, lands, None, move=((1, HUGE), (0, 1), 1, 0), point=(1, 0))
        check_call(self, lands, None, move=((1, 1), (0, 1), 1, HUGE), point=(0, 0))
        check_call(self, lands, None, move=((1, 1), (-HUGE, 1), 1, 0), point=(0, 0))

    def test_as_the_words_tell(self):
        dice = random.Random(2)
        for move in some_moves(300, 2):
            q, t, e, v = as_numbers(move)
            x, y = point = (dice.randint(-30, 30), dice.randint(-30, 30))
            onset = q * x + t
            wanted = (int(onset), e * y + v) if onset.denominator == 1 else None
            self.assertTrue(same(lands(move, point), wanted), (move, point))


class LedTest(unittest.TestCase):
    def test_as_the_words_tell(self):
        dice = random.Random(3)
        told = 0
        for move in some_moves(300, 3):
            points = tuple(sorted({(dice.randrange(0, 40, 6), dice.randrange(5)) for _ in range(dice.randrange(7))}))
            places = [lands(move, point) for point in points]
            wanted = None if None in places else tuple(sorted(places))
            check_call(self, led, wanted, move=move, points=points)
            told += wanted is not None and len(points) > 1
        self.assertGreater(told, 40)

    def test_edges(self):
        check_call(self, led, (), move=((1, 2), (1, 2), -1, HUGE), points=())
        row = tuple([(k, 5) for k in range(60)])
        check_call(self, led, tuple([(k, -5) for k in range(-59, 1)]), move=((-1, 1), (0, 1), -1, 0), points=row)
        check_call(self, led, None, move=((1, 1), (9941, 1), 1, 0), points=row)
        check_call(self, led, tuple([(k + 9940, 5) for k in range(60)]), move=((1, 1), (9940, 1), 1, 0), points=row)
        check_call(self, led, None, move=((-1, 1), (-9941, 1), 1, 0), points=row)
        check_call(self, led, None, move=((1, 2), (0, 1), 1, 0), points=((0, 0), (2, 0), (3, 0)))
        check_call(self, led, None, move=((1, 1), (0, 1), 1, 9995), points=((0, 5), (1, 4)))

    def test_chords_upside_down(self):
        check_call(self, led, ((1, -7), (1, -4), (1, 0)), move=((1, 1), (1, 1), -1, 0), points=((0, 0), (0, 4), (0, 7)))


class BehindTest(unittest.TestCase):
    def test_as_the_words_tell(self):
        for move, further in zip(some_moves(400, 4), some_moves(400, 5)):
            q, t, e, v = as_numbers(move)
            r, u, f, w = as_numbers(further)
            wanted = as_move(r * q, r * t + u, f * e, f * v + w)
            self.assertIsNone(move_error(wanted))
            check_call(self, behind, wanted, move=move, further=further)

    def test_halves_and_thirds(self):
        half, third = ((1, 2), (1, 3), -1, 4), ((-2, 3), (-1, 2), -1, -6)
        check_call(self, behind, ((-1, 3), (-13, 18), 1, -10), move=half, further=third)
        check_call(self, behind, ((-1, 3), (1, 12), 1, 10), move=third, further=half)
        check_call(self, undone, ((2, 1), (-2, 3), -1, 4), move=half)
        check_call(self, undone, ((-3, 2), (-3, 4), -1, -6), move=third)

    def test_undone_either_way(self):
        for move in some_moves(300, 6) + [((HUGE, 3), (-1, HUGE), -1, HUGE), ((-1, HUGE), (5, 1), 1, -HUGE)]:
            back = undone(move)
            self.assertIsNone(move_error(back))
            self.assertTrue(same(behind(move, back), STILL))
            self.assertTrue(same(behind(back, move), STILL))
            check_call(self, undone, move, move=back)
        check_call(self, undone, STILL, move=STILL)

    def test_points_go_the_same_way(self):
        for move, further in zip(some_moves(300, 7), some_moves(300, 8)):
            for point in ((0, 0), (6, 5), (12, -3), (36, 1)):
                place = lands(move, point)
                if place is not None and lands(further, place) is not None:
                    self.assertEqual(lands(behind(move, further), point), lands(further, place))


class KindsTest(unittest.TestCase):
    def wanted(self, kind, move):
        """Return whether a move is of a kind, as [B5] tells it."""
        q, t, e, _ = as_numbers(move)
        whole = t.denominator == 1
        return {
            "shift": q == 1 and whole and e == 1,
            "flip": q == 1 and whole,
            "back": abs(q) == 1 and whole and e == 1,
            "both": abs(q) == 1 and whole,
            "slow": q > 0 and e == 1,
            "all": True,
        }[kind]

    def test_as_the_words_tell(self):
        seen = {}
        for q in (1, -1, 2, -2, Fraction(1, 2), Fraction(-1, 2), Fraction(3, 2)):
            for t in (0, 5, -5, Fraction(1, 2), Fraction(-7, 3)):
                for e in (1, -1):
                    for v in (0, 7, -7):
                        move = as_move(Fraction(q), Fraction(t), e, v)
                        for kind in KINDS:
                            wanted = self.wanted(kind, move)
                            check_call(self, is_of, wanted, kind=kind, move=move)
                            seen[kind, wanted] = True
        self.assertEqual(len(seen), 11)

    def test_kinds_are_kept(self):
        moves = some_moves(60, 9)
        for kind in KINDS:
            own = [move for move in moves if is_of(kind, move)]
            self.assertGreater(len(own), 2)
            for move in own:
                self.assertIs(is_of(kind, undone(move)), True)
                for further in own:
                    self.assertIs(is_of(kind, behind(move, further)), True)

    def test_no_kinds(self):
        for kind in NO_KINDS:
            for move in (STILL, ((1, 2), (0, 1), -1, 0)):
                check_call(self, is_of, NoKind(kind), kind=kind, move=move)


if __name__ == "__main__":
    unittest.main()
