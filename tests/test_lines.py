"""Lines and followings: heardagain.lines, [G1] to [G5]."""

import random
import unittest
from fractions import Fraction

from heardagain.errors import NoKind, NoVoice, TooMany, Unfit
from heardagain.lines import followings, line_of
from heardagain.moves import behind, is_of, led, move_error, undone
from heardagain.scores import voices_of
from tests.helper import (KINDS, NO_KINDS, ODD_VALUES, STILL, as_move, check_call, check_examples, flat, same, score_at,
                          some_moves)

EXAMPLES = """
    >>> from heardagain.lines import followings, line_of
    >>> score = ((0, 55, 1, 4), (0, 60, 0, 1), (2, 62, 0, 1), (4, 64, 0, 1), (4, 64, 2, 2), (4, 67, 2, 2), (6, 65, 0, 2))
    >>> line_of(score, 0), line_of(score, 1)
    (((0, 60), (2, 62), (4, 64), (6, 65)), ((0, 55),))
    >>> line_of(score, 2)
    raises Unfit()
    >>> line_of(score, True)
    raises NoVoice(True)
    >>> tune = line_of(score, 0)
    >>> later, slower = ((1, 67), (3, 69), (5, 71), (7, 72)), ((0, 60), (4, 62), (8, 64), (12, 65))
    >>> followings(tune, later, "shift", 3), followings(tune, slower, "slow", 3), followings(tune, slower, "both", 3)
    (((0, 0, 4, ((1, 1), (1, 1), 1, 7)),), ((0, 0, 4, ((2, 1), (0, 1), 1, 0)),), ())
    >>> arch, flat = ((0, 60), (2, 62), (4, 60)), ((0, 60), (1, 60), (2, 60))
    >>> followings(arch, arch, "shift", 3), followings(arch, arch, "back", 3), followings(flat, flat, "flip", 3)
    ((), ((0, 0, 3, ((-1, 1), (4, 1), 1, 0)),), ((0, 0, 3, ((1, 1), (0, 1), -1, 120)),))
    >>> rising = ((0, 60), (1, 62), (2, 64), (3, 66))
    >>> followings(rising, rising, "shift", 3)
    ((0, 1, 3, ((1, 1), (1, 1), 1, 2)), (1, 0, 3, ((1, 1), (-1, 1), 1, -2)))
    >>> followings(tune, ((0, 72), (2, 71), (4, 69), (6, 67)), "both", 3)
    ((0, 0, 4, ((-1, 1), (6, 1), 1, 7)), (0, 1, 3, ((1, 1), (2, 1), -1, 131)))
    >>> followings(tune, later, "shift", 2)
    raises Unfit()
"""

SCORE = ((0, 55, 1, 4), (0, 60, 0, 1), (2, 62, 0, 1), (4, 64, 0, 1), (4, 64, 2, 2), (4, 67, 2, 2), (6, 65, 0, 2))
TUNE = ((0, 60), (2, 62), (4, 64), (6, 65))
HUGE = 10 ** 399


def leads_stretch(move, line, other, start, begin, many):
    """Return whether a move leads a stretch, as [G3] tells it; False for places that are none."""
    if min(start, begin) < 0 or start + many > len(line) or begin + many > len(other):
        return False
    q, t, e, v = Fraction(*move[0]), Fraction(*move[1]), move[2], move[3]
    for i in range(many):
        x, y = line[start + i]
        if other[begin + i if q > 0 else begin + many - 1 - i] != (q * x + t, e * y + v):
            return False
    return True


def leads_further(move, line, other, start, begin, many):
    """Return whether a move leads a stretch further."""
    ways = ((start - 1, begin - 1), (start, begin)) if move[0][0] > 0 else ((start - 1, begin), (start, begin - 1))
    return any(leads_stretch(move, line, other, one, two, many + 1) for one, two in ways)


def told_stretches(line, other, least):
    """Return all stretches of at least so many points that some move leads, each with the move."""
    found = []
    for many in range(least, min(len(line), len(other)) + 1):
        for start in range(len(line) - many + 1):
            for begin in range(len(other) - many + 1):
                for e in (1, -1):
                    for ends in ((0, many - 1), (many - 1, 0)):
                        (x, y), end = line[start], line[start + many - 1][0]
                        first, last = other[begin + ends[0]], other[begin + ends[1]]
                        q = Fraction(last[0] - first[0], end - x)
                        move = as_move(q, first[0] - q * x, e, first[1] - e * y)
                        if leads_stretch(move, line, other, start, begin, many):
                            found.append((start, begin, many, move))
    return found


def told_followings(line, other, least):
    """Return all followings of the kind all."""
    return sorted([one for one in told_stretches(line, other, least)
                   if not leads_further(one[3], line, other, *one[:3]) and not (line == other and one[3] == STILL)])


def some_line(dice, many):
    """Return a line of so many points, in which some steps come again."""
    onset, pitch, line = dice.randint(-3, 3), dice.randint(50, 60), []
    for _ in range(many):
        line.append((onset, pitch))
        onset += dice.choice((1, 1, 1, 2, 2, 3))
        pitch += dice.choice((0, 0, 1, -1, 2))
    return tuple(line)


def some_lines(many, seed):
    """Return so many pairs of lines, in the second one of which a part of the first one is often heard."""
    dice = random.Random(seed)
    found = []
    while len(found) < many:
        line = some_line(dice, dice.randint(0, 7))
        other = some_line(dice, dice.randint(0, 7))
        if line and dice.random() < 0.7:
            q, e = dice.choice((1, 1, 2, Fraction(1, 2), Fraction(2, 3), -1, -1, -3, Fraction(-1, 2))), dice.choice((1, 1, -1))
            part = [(q * x + dice.choice((20, 20, 21)) if dice.random() < 0.1 else q * x + 20, e * y + 9) for x, y in line]
            other = tuple(sorted({(int(x), y) for x, y in part if x == int(x)}))
        if dice.random() < 0.15:
            other = line
        if len({x for x, _ in other}) == len(other):
            found.append(dice.choice(((line, other), (other, line))))
    return found


class ExamplesTest(unittest.TestCase):
    def test_examples(self):
        self.assertEqual(check_examples(self, EXAMPLES), 8)


class LineOfTest(unittest.TestCase):
    def test_lines(self):
        check_call(self, line_of, TUNE, score=SCORE, voice=0)
        check_call(self, line_of, ((0, 55),), score=SCORE, voice=1)
        both = tuple(sorted([(k, 60 + k % 5, k % 3 * 3, 1 + k) for k in range(30)]))
        for voice in (0, 3, 6):
            wanted = tuple([(x, y) for x, y, own, _ in both if own == voice])
            self.assertEqual(len(wanted), 10)
            check_call(self, line_of, wanted, score=both, voice=voice)

    def test_voices_that_are_none(self):
        wrong = ODD_VALUES + (True, False, 2, 7, 8, -1, "0", "1", (0,), [0], [1], {0: 1}, None, HUGE, -HUGE, 0 == 0, (), "")
        for voice in wrong:
            for score in ((), SCORE[:1], SCORE[:1] + SCORE[1:4]):
                if type(voice) is not int or voice not in voices_of(score):
                    check_call(self, line_of, NoVoice(voice), score=score, voice=voice)
        for voice in range(-1, 9):
            check_call(self, line_of, NoVoice(voice), score=(), voice=voice)

    def test_true_is_not_1_and_false_is_not_0(self):
        for voice in (True, False):
            check_call(self, line_of, NoVoice(voice), score=SCORE, voice=voice)

    def test_chords(self):
        check_call(self, line_of, Unfit(), score=SCORE, voice=2)
        # Across voices two notes may have one onset, and one point.
        across = ((0, 60, 0, 1), (0, 60, 1, 1), (0, 64, 2, 1), (3, 62, 0, 1), (3, 62, 2, 1))
        for voice, wanted in ((0, ((0, 60), (3, 62))), (1, ((0, 60),)), (2, ((0, 64), (3, 62)))):
            check_call(self, line_of, wanted, score=across, voice=voice)
        more = tuple(sorted(across + ((3, 90, 2, 9),)))
        check_call(self, line_of, Unfit(), score=more, voice=2)
        check_call(self, line_of, ((0, 60), (3, 62)), score=more, voice=0)

    def test_24_and_25_notes(self):
        for many in (1, 23, 24, 25, 26, 60):
            score = score_at(flat(many))
            check_call(self, line_of, tuple(flat(many)) if many <= 24 else TooMany(24), score=score, voice=0)
        mixed = tuple(sorted([(k, 60, 0, 1) for k in range(24)] + [(k, 70, 5, 1) for k in range(36)]))
        check_call(self, line_of, tuple(flat(24)), score=mixed, voice=0)
        check_call(self, line_of, TooMany(24), score=mixed, voice=5)

    def test_order_of_errors(self):
        # 25 notes, two at one onset.
        score = score_at(flat(24) + [(7, 80)])
        check_call(self, line_of, Unfit(), score=score, voice=0)
        check_call(self, line_of, NoVoice(3), score=score, voice=3)
        check_call(self, line_of, NoVoice(False), score=score, voice=False)
        check_call(self, line_of, TooMany(24), score=score_at(flat(25)), voice=0)


class FollowingsTest(unittest.TestCase):
    def test_as_the_words_tell(self):
        seen = {}
        for line, other in some_lines(300, 1):
            told = told_followings(line, other, 3)
            for kind in KINDS:
                for least in (3, 4, 5):
                    wanted = tuple([one for one in told if one[2] >= least and is_of(kind, one[3])])
                    check_call(self, followings, wanted, line=line, other=other, kind=kind, least=least)
                    for _, _, many, move in wanted:
                        self.assertIsNone(move_error(move))
                        (above, below), t, e, _ = move
                        seen[kind, above < 0, below, e, many > 3] = True
                    seen[kind, least, len(wanted) > 0, line == other] = True
        for kind in KINDS:
            self.assertIn((kind, False, 1, 1, True), seen)
            self.assertIn((kind, 4, True, False), seen)
        for back in (False, True):
            for below in (1, 2, 3):
                for e in (1, -1):
                    if not back or below < 3:
                        self.assertIn(("all", back, below, e, True), seen)
        self.assertIn(("slow", False, 3, 1, False), seen)
        self.assertIn(("all", 3, True, True), seen)

    def test_halves_and_thirds_backward(self):
        line = ((0, 60), (6, 61), (12, 63), (15, 60), (21, 60))
        for q in (Fraction(1, 3), Fraction(2, 3), Fraction(-1, 3), Fraction(-4, 3)):
            for e in (1, -1):
                move = as_move(q, Fraction(40), e, 5)
                other = led(move, line)
                kind = "slow" if q > 0 and e > 0 else "all"
                self.assertIn((0, 0, 5, move), followings(line, other, kind, 3))
                check_call(self, followings, tuple(told_followings(line, other, 3)), line=line, other=other, kind="all",
                           least=3)
                narrow = tuple([one for one in told_followings(line, other, 3) if is_of("both", one[3])])
                check_call(self, followings, narrow, line=line, other=other, kind="both", least=3)

    def test_lines_of_one_pitch(self):
        for many, others in ((3, 3), (3, 5), (6, 4), (5, 5)):
            line, other = tuple(flat(many, 0)), tuple(flat(others, 7))
            for kind in KINDS:
                wanted = tuple([one for one in told_followings(line, other, 3) if is_of(kind, one[3])])
                self.assertIn(-1 if kind in ("flip", "both", "all") else 1, [one[3][2] for one in wanted])
                check_call(self, followings, wanted, line=line, other=other, kind=kind, least=3)
        # With e -1 the pitch 0 needs the same v as with e 1: both are told.
        check_call(self, followings, ((0, 0, 3, ((1, 1), (0, 1), -1, 0)),), line=tuple(flat(3, 0)), other=tuple(flat(3, 0)),
                   kind="flip", least=3)
        check_call(self, followings, ((0, 0, 3, ((1, 1), (1, 1), -1, 0)), (0, 0, 3, ((1, 1), (1, 1), 1, 0))),
                   line=tuple(flat(3, 0)), other=((1, 0), (2, 0), (3, 0)), kind="flip", least=3)

    def test_a_line_with_itself(self):
        dice = random.Random(2)
        for _ in range(60):
            line = some_line(dice, dice.randint(0, 9))
            equal = tuple([(x, y) for x, y in line])
            for kind in KINDS:
                wanted = tuple([one for one in told_followings(line, equal, 3) if is_of(kind, one[3])])
                self.assertNotIn(STILL, [one[3] for one in wanted])
                check_call(self, followings, wanted, line=line, other=equal, kind=kind, least=3)

    def test_the_still_move_of_unlike_lines(self):
        line = ((0, 60), (1, 62), (2, 61), (3, 67))
        check_call(self, followings, ((0, 0, 3, STILL),), line=line, other=line[:3], kind="shift", least=3)
        check_call(self, followings, ((0, 0, 3, STILL),), line=line[:3], other=line, kind="shift", least=3)
        check_call(self, followings, ((1, 0, 3, STILL),), line=line, other=line[1:], kind="shift", least=3)
        check_call(self, followings, (), line=line, other=line, kind="shift", least=3)

    def test_fewer_than_three_points(self):
        for many in range(3):
            for other in (TUNE, TUNE[:2], TUNE[:1], ()):
                for kind in KINDS:
                    check_call(self, followings, (), line=TUNE[:many], other=other, kind=kind, least=3)
                    check_call(self, followings, (), line=other, other=TUNE[:many], kind=kind, least=3)

    def test_a_least_beyond_all(self):
        for least in (5, 6, 24, 25, 1000, HUGE):
            for kind in KINDS:
                check_call(self, followings, (), line=TUNE, other=((1, 67), (3, 69), (5, 71), (7, 72)), kind=kind,
                           least=least)
        check_call(self, followings, ((0, 0, 4, ((1, 1), (1, 1), 1, 7)),), line=TUNE,
                   other=((1, 67), (3, 69), (5, 71), (7, 72)), kind="shift", least=4)

    def test_errors(self):
        for least in (2, 1, 0, -1, -HUGE):
            for kind in KINDS:
                check_call(self, followings, Unfit(), line=TUNE, other=TUNE, kind=kind, least=least)
                check_call(self, followings, Unfit(), line=(), other=(), kind=kind, least=least)
        for kind in NO_KINDS:
            for least in (3, 2, -HUGE):
                check_call(self, followings, NoKind(kind), line=TUNE, other=TUNE, kind=kind, least=least)
            check_call(self, followings, NoKind(kind), line=(), other=(), kind=kind, least=3)

    def test_the_ends_of_all_ranges(self):
        line = ((-9999, -9999), (0, 0), (9999, 9999))
        check_call(self, followings, ((0, 0, 3, ((-1, 1), (0, 1), -1, 0)),), line=line, other=line, kind="all", least=3)
        check_call(self, followings, ((0, 0, 3, ((1, 9999), (0, 1), 1, 0)),), line=line,
                   other=((-1, -9999), (0, 0), (1, 9999)), kind="slow", least=3)
        check_call(self, followings, ((0, 0, 3, ((9999, 1), (0, 1), 1, 0)),), line=((-1, -9999), (0, 0), (1, 9999)),
                   other=line, kind="slow", least=3)

    def test_24_points(self):
        row, slope = tuple(flat(24)), tuple([(k, 3 * k) for k in range(24)])
        # One shift for each distance with 3 notes or more.
        self.assertEqual(len(followings(row, row, "shift", 3)), 42)
        self.assertEqual(len(followings(row, slope, "all", 3)), 0)
        wanted = sorted([(max(-far, 0), max(far, 0), 24 - abs(far), ((1, 1), (far, 1), 1, 3 * far))
                         for far in range(-21, 22) if far])
        check_call(self, followings, tuple(wanted), line=slope, other=slope, kind="shift", least=3)
        self.assertEqual(len(followings(slope, slope, "both", 3)), 42 + 43)


class HoldsTest(unittest.TestCase):
    """What [A2] (e) and [G5] say of followings."""

    def test_each_stretch_stands_within_just_one(self):
        told = 0
        for line, other in some_lines(200, 3):
            for kind in ("shift", "both", "all"):
                found = followings(line, other, kind, 3)
                for start, begin, many, move in told_stretches(line, other, 3):
                    if is_of(kind, move) and not (line == other and move == STILL):
                        own = [one for one in found if one[3] == move
                               and one[0] <= start and start + many <= one[0] + one[2]
                               and one[1] <= begin and begin + many <= one[1] + one[2]
                               and self.same_points(start, begin, many, one)]
                        self.assertEqual(len(own), 1)
                        told += 1
        self.assertGreater(told, 300)

    def same_points(self, start, begin, many, whole):
        """Return whether a stretch leads its points to those to which a following leads them."""
        first, later, length, (q, _, _, _) = whole
        if q[0] > 0:
            return start - first == begin - later
        return start - first == later + length - begin - many

    def test_exchanged(self):
        for line, other in some_lines(150, 4):
            for kind in KINDS:
                wanted = sorted([(begin, start, many, undone(move))
                                 for start, begin, many, move in followings(line, other, kind, 3)])
                check_call(self, followings, tuple(wanted), line=other, other=line, kind=kind, least=3)

    def test_cut(self):
        for line, other in some_lines(100, 5):
            for first in range(len(line)):
                for end in range(first + 3, len(line) + 1):
                    part = line[first:end]
                    if part != other and line != other:
                        wanted = set()
                        for start, begin, many, move in followings(line, other, "all", 3):
                            low, high = max(start, first), min(start + many, end)
                            if high - low >= 3:
                                late = low - start if move[0][0] > 0 else start + many - high
                                wanted.add((low - first, begin + late, high - low, move))
                        self.assertEqual(followings(part, other, "all", 3), tuple(sorted(wanted)))

    def test_led(self):
        told = 0
        for (line, other), move in zip(some_lines(400, 6), some_moves(400, 6)):
            later = led(move, other)
            if later is not None and line != other and line != later:
                for kind in KINDS:
                    if is_of(kind, move):
                        wanted = []
                        for start, begin, many, own in followings(line, other, kind, 3):
                            place = begin if move[0][0] > 0 else len(other) - begin - many
                            wanted.append((start, place, many, behind(own, move)))
                        self.assertTrue(same(followings(line, later, kind, 3), tuple(sorted(wanted))))
                        told += len(wanted) > 0
        self.assertGreater(told, 50)


if __name__ == "__main__":
    unittest.main()
