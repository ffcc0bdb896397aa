"""What scores have in common: heardagain.common, [D1] to [D5]."""

import itertools
import random
import unittest
from fractions import Fraction

from heardagain.common import common, likeness, ranked, several, shared
from heardagain.errors import NoKind, TooMany, Unfit
from heardagain.moves import is_of, led, move_error, undone
from heardagain.scores import points_of, score_error
from tests.helper import (KINDS, NO_KINDS, ODD_VALUES, STILL, check_call, check_examples, check_names, flat, raised, same,
                          same_error, score_at, some_moves, told_hits, told_moves)

EXAMPLES = """
    >>> from heardagain.common import common, likeness, ranked, several, shared
    >>> a = ((0, 60, 0, 1), (2, 64, 0, 1), (4, 62, 0, 1))
    >>> b = ((1, 65, 0, 2), (3, 69, 1, 1), (5, 70, 0, 1))
    >>> c = ((0, 60, 0, 1), (0, 64, 0, 1))
    >>> common(a, b, "shift"), shared(a, b, ((1, 1), (1, 1), 1, 5))
    ((2, (((1, 1), (1, 1), 1, 5),)), ((0, 60), (2, 64)))
    >>> common(a, b, "all"), common(a, b, "slow") == common(a, b, "shift")
    ((2, (((-1, 1), (3, 1), -1, 129), ((1, 1), (1, 1), 1, 5))), True)
    >>> common(b, a, "shift"), common(a, a, "both"), common(c, c, "all"), common(a, (), "flip")
    ((2, (((1, 1), (-1, 1), 1, -5),)), (3, (((1, 1), (0, 1), 1, 0),)), (0, ()), (0, ()))
    >>> shared(a, c, ((1, 1), (0, 1), 1, 0)), shared(c, c, ((1, 1), (0, 1), 1, 0))
    (((0, 60),), ((0, 60), (0, 64)))
    >>> common(a, b, "up")
    raises NoKind('up')
    >>> likeness(a, b, "shift"), likeness(a, a, "shift"), likeness(c, c, "all"), likeness((), (), "shift"), likeness(a, (), "all")
    ((2, 3), (1, 1), (0, 1), (0, 1), (0, 1))
    >>> ranked((b, (), a, c, b), a, "shift"), ranked((), a, "all")
    ((2, 0, 4, 1, 3), ())
    >>> several((a, b)), several((a, ())), several((a, a))
    ((((0, 0), (2, 4)), ((0, 60), (1, 65))), ((), ()), (((0, 0), (2, 4), (4, 2)), ((0, 60), (0, 60))))
    >>> points, shifts = several((a, b, c))
    >>> points, len(shifts), shifts[2] in ((0, 60), (0, 64))
    (((0, 0),), 3, True)
    >>> several((a,))
    raises Unfit()
"""

A = ((0, 60, 0, 1), (2, 64, 0, 1), (4, 62, 0, 1))
B = ((1, 65, 0, 2), (3, 69, 1, 1), (5, 70, 0, 1))
CHORD = ((0, 60, 0, 1), (0, 64, 0, 1))
WITHIN = (("shift", "flip"), ("shift", "back"), ("flip", "both"), ("back", "both"), ("both", "all"), ("shift", "slow"),
          ("slow", "all"))


def some_scores(many, seed):
    """Return so many pairs of scores, the second one of which has notes of the first one, led by some move."""
    dice = random.Random(seed)
    found = []
    while len(found) < many:
        wide, high = dice.choice(((6, 4), (8, 3), (12, 2), (4, 6)))
        one = {(dice.randrange(wide), dice.randrange(high)) for _ in range(dice.randint(0, 8))}
        two = {(dice.randrange(wide), dice.randrange(high)) for _ in range(dice.randint(0, 5))}
        q, e = dice.choice((1, 1, 2, 3, Fraction(1, 2), Fraction(2, 3), -1, -2, Fraction(-1, 2))), dice.choice((1, 1, -1))
        far = [(q * x + 24, e * y + 9) for x, y in one if dice.random() < 0.8]
        two.update([(int(x), y) for x, y in far if x == int(x) and dice.random() < 0.9])
        pair = [tuple(sorted({point + (voice, 1 + voice) for point in points for voice in dice.choice(((0,), (1, 3)))}))
                for points in (one, two)]
        dice.shuffle(pair)
        if score_error(pair[0]) is None and score_error(pair[1]) is None and len(pair[0]) * len(pair[1]) <= 400:
            found.append(tuple(pair))
    return found


def told_common(score, other):
    """Return all moves that count, each with the points that they share."""
    points = points_of(score)
    return [(move, told_hits(other, points, move)) for move in told_moves(other, points)]


def most(told, kind):
    """Return what common tells, of the moves that count."""
    own = [(move, len(points)) for move, points in told if is_of(kind, move)]
    many = max([size for _, size in own], default=0)
    return (many, tuple([move for move, size in own if size == many]))


class ExamplesTest(unittest.TestCase):
    def test_examples(self):
        self.assertEqual(check_examples(self, EXAMPLES), 10)


class SharedTest(unittest.TestCase):
    def test_as_the_words_tell(self):
        many = 0
        for (score, other), move in zip(some_scores(100, 1), some_moves(100, 1)):
            for own in [move, STILL] + told_moves(other, points_of(score))[:8]:
                wanted = told_hits(other, points_of(score), own)
                check_call(self, shared, wanted, score=score, other=other, move=own)
                many += len(wanted) > 2
        self.assertGreater(many, 20)

    def test_more_points_than_a_figure_has(self):
        score = score_at(flat(60))
        check_call(self, shared, points_of(score), score=score, other=score, move=STILL)
        later = ((1, 1), (10, 1), 1, 0)
        check_call(self, shared, points_of(score)[:50], score=score, other=score, move=later)
        check_call(self, shared, points_of(score)[:30], score=score, other=score, move=((2, 1), (0, 1), 1, 0))
        check_call(self, shared, (), score=(), other=score, move=STILL)
        check_call(self, shared, (), score=score, other=(), move=STILL)


class CommonTest(unittest.TestCase):
    def test_as_the_words_tell(self):
        seen = {}
        for score, other in some_scores(120, 2):
            told = told_common(score, other)
            for kind in KINDS:
                wanted = most(told, kind)
                check_call(self, common, wanted, score=score, other=other, kind=kind)
                for move in wanted[1]:
                    self.assertIsNone(move_error(move))
                    self.assertEqual(len(shared(score, other, move)), wanted[0])
                    (above, below), t, e, _ = move
                    if wanted[0] > 2:
                        seen[kind, above < 0, below, e] = True
                seen[kind, wanted[0]] = True
        for kind in KINDS:
            for many in (0, 2, 3, 4):
                self.assertIn((kind, many), seen)
        for below in (2, 3):
            self.assertIn(("slow", False, below, 1), seen)
        for back in (False, True):
            for e in (1, -1):
                self.assertIn(("both", back, 1, e), seen)
                self.assertIn(("all", back, 2, e), seen)

    def test_one_onset_one_note_and_none(self):
        for score in ((), A[:1], CHORD, ((0, 60, 0, 1), (0, 60, 1, 1)), score_at([(7, 60 + k) for k in range(12)])):
            for other in (A, score, (), CHORD):
                for kind in KINDS:
                    check_call(self, common, (0, ()), score=score, other=other, kind=kind)
                    check_call(self, common, (0, ()), score=other, other=score, kind=kind)

    def test_chords_do_not_count_but_their_points_do(self):
        # By no shift two chords share more than they do by the one that leads onsets to onsets.
        score = score_at([(0, 60), (0, 64), (0, 67), (5, 60)])
        other = score_at([(2, 60), (2, 64), (2, 67), (7, 60), (9, 40), (9, 44), (9, 47)])
        check_call(self, common, (4, (((1, 1), (2, 1), 1, 0),)), score=score, other=other, kind="shift")
        alone = score_at([(2, 60), (2, 64), (2, 67), (7, 63)])
        check_call(self, common, (0, ()), score=score, other=alone[:3], kind="shift")
        check_call(self, common, (2, (((1, 1), (2, 1), 1, 3),)), score=score, other=alone, kind="shift")

    def test_several_voices_at_one_point(self):
        doubled = tuple(sorted(A + tuple([(x, y, voice, 3) for x, y, _, _ in A for voice in (2, 7)])))
        for kind in KINDS:
            check_call(self, common, common(A, B, kind), score=doubled, other=B, kind=kind)
            check_call(self, common, common(B, A, kind), score=B, other=doubled, kind=kind)
            check_call(self, likeness, likeness(A, B, kind), score=doubled, other=B, kind=kind)
        check_call(self, shared, points_of(A), score=doubled, other=A, move=STILL)

    def test_halves_and_thirds(self):
        third = (((1, 3), (2, 3), 1, 5),)
        score, other = score_at([(1, 60), (4, 62), (13, 61)]), score_at([(1, 65), (2, 67), (5, 66)])
        check_call(self, common, (3, third), score=score, other=other, kind="slow")
        check_call(self, common, (3, (undone(third[0]),)), score=other, other=score, kind="slow")
        # Backward, upside down and half as slow again; no two onsets lie as far apart as two of the other score.
        score, other = score_at([(0, 60), (2, 62), (6, 61)]), score_at([(0, 59), (6, 58), (9, 60)])
        back = (((-3, 2), (9, 1), -1, 120),)
        check_call(self, common, (3, back), score=score, other=other, kind="all")
        check_call(self, common, (3, (undone(back[0]),)), score=other, other=score, kind="all")
        check_call(self, common, (2, (((3, 1), (0, 1), 1, -1),)), score=score[:2], other=score_at([(0, 59), (6, 61)]),
                   kind="slow")
        check_call(self, common, (0, ()), score=score[:2], other=score_at([(0, 59), (6, 61)]), kind="both")


class CrossTest(unittest.TestCase):
    def test_400_and_more(self):
        for one, two in ((20, 20), (8, 50), (40, 10), (1, 60), (6, 60), (21, 20), (20, 21), (60, 7), (60, 60), (401, 1)):
            score, other = score_at(flat(min(one, 60))), score_at(flat(two, 61))
            wide = len(score) * len(other) > 400
            for kind in KINDS:
                found = raised(lambda: common(score, other, kind))
                if wide and kind in ("slow", "all"):
                    self.assertTrue(same_error(found, TooMany(400)), (one, two, kind))
                    check_call(self, common, TooMany(400), score=score, other=other, kind=kind)
                    check_call(self, likeness, TooMany(400), score=score, other=other, kind=kind)
                    check_call(self, ranked, TooMany(400), scores=((), other, A), score=score, kind=kind)
                else:
                    self.assertIsInstance(found, tuple)
                    many = min(len(score), len(other))
                    self.assertEqual(found[0], many if many > 1 else 0)

    def test_points_are_counted_not_notes(self):
        doubled = tuple(sorted([(k, 60, voice, 1) for k in range(20) for voice in (0, 1, 2)]))
        self.assertEqual(common(doubled, score_at(flat(20)), "slow")[0], 20)
        more = tuple(sorted(doubled[1:] + ((30, 60, 0, 1),)))
        check_call(self, common, TooMany(400), score=more, other=score_at(flat(20)), kind="slow")

    def test_also_where_no_move_counts(self):
        chord = score_at([(3, k) for k in range(21)])
        for kind in KINDS:
            wanted = TooMany(400) if kind in ("slow", "all") else (0, ())
            check_call(self, common, wanted, score=chord, other=chord, kind=kind)
            check_call(self, common, (0, ()), score=chord[1:], other=chord[1:], kind=kind)

    def test_no_kind_ahead_of_it(self):
        wide = score_at(flat(60))
        for kind in NO_KINDS:
            for score, other in ((wide, wide), (A, B), ((), ())):
                check_call(self, common, NoKind(kind), score=score, other=other, kind=kind)
                check_call(self, likeness, NoKind(kind), score=score, other=other, kind=kind)
                check_call(self, ranked, NoKind(kind), scores=(other, score), score=score, kind=kind)
            check_call(self, ranked, NoKind(kind), scores=(), score=wide, kind=kind)

    def test_ranked_of_none_has_nothing_that_is_too_much(self):
        check_call(self, ranked, (), scores=(), score=score_at(flat(60)), kind="all")


class LikenessTest(unittest.TestCase):
    def test_as_the_words_tell(self):
        seen = {}
        for score, other in some_scores(80, 3):
            told = told_common(score, other)
            for kind in KINDS:
                notes = len(points_of(score)) + len(points_of(other))
                wanted = Fraction(2 * most(told, kind)[0], notes) if notes else Fraction(0)
                check_call(self, likeness, (wanted.numerator, wanted.denominator), score=score, other=other, kind=kind)
                self.assertLessEqual(wanted, 1)
                seen[wanted] = True
        self.assertGreater(len(seen), 12)

    def test_least_terms(self):
        score, other = score_at(flat(4)), score_at(flat(2) + [(50, 3), (70, 9)])
        check_call(self, likeness, (1, 2), score=score, other=other, kind="shift")
        check_call(self, likeness, (1, 1), score=score, other=score, kind="all")
        for kind in KINDS:
            for one, two in (((), ()), (A, ()), ((), A), (CHORD, CHORD), (A[:1], A[:1])):
                check_call(self, likeness, (0, 1), score=one, other=two, kind=kind)

    def test_ranked(self):
        dice = random.Random(4)
        for _ in range(40):
            scores = tuple([score for pair in some_scores(dice.randint(1, 4), dice.random()) for score in pair])
            score = dice.choice(scores)
            for kind in KINDS:
                keys = [(-Fraction(*likeness(one, score, kind)), place) for place, one in enumerate(scores)]
                check_call(self, ranked, tuple([place for _, place in sorted(keys)]), scores=scores, score=score, kind=kind)

    def test_numbers_are_compared_not_pairs(self):
        # 2/3 is more than 3/5 and 1/2, though its first item is not the greatest.
        score = score_at(flat(6))
        scores = tuple([score_at(flat(many) + [(1000 * k * k, 10 + 3 * k) for k in range(1, 1 + more)])
                        for many, more in ((2, 0), (3, 1), (3, 3), (6, 0), (4, 2), (2, 2), (3, 0), (5, 12))])
        found = [Fraction(*likeness(one, score, "shift")) for one in scores]
        self.assertEqual(found, [Fraction(*pair) for pair in ((1, 2), (3, 5), (1, 2), (1, 1), (2, 3), (2, 5), (2, 3),
                                                              (10, 23))])
        check_call(self, ranked, (3, 4, 6, 1, 0, 2, 7, 5), scores=scores, score=score, kind="shift")
        check_call(self, ranked, (0, 1, 2), scores=(A, A, A), score=A, kind="all")
        check_call(self, ranked, (0, 1, 2), scores=((), CHORD, ()), score=A, kind="all")


def lies(points, shift, score):
    """Return whether points lie in a score by a shift."""
    return {(x + shift[0], y + shift[1]) for x, y in points} <= set(points_of(score))


def most_in_several(scores):
    """Return the greatest number of points of the first score that lie in all others, by going through all lots."""
    first = points_of(scores[0])
    for many in range(len(first), 0, -1):
        for lot in itertools.combinations(first, many):
            if all(any(lies(lot, (x - lot[0][0], y - lot[0][1]), score) for x, y in points_of(score))
                   for score in scores[1:]):
                return many
    return 0


class SeveralTest(unittest.TestCase):
    def check_several(self, scores):
        """Check what several returns, but for how many points there are; return this."""
        check_names(self, several, ["scores"])
        found = several(scores)
        self.assertTrue(same(found, several(scores=scores)))
        self.assertIs(type(found), tuple)
        points, shifts = found
        self.assertIs(type(points), tuple)
        self.assertIs(type(shifts), tuple)
        if () in scores:
            self.assertEqual(found, ((), ()))
            return 0
        self.assertEqual(points[0], (0, 0))
        self.assertEqual(list(points), sorted(set(points)))
        self.assertEqual(len(shifts), len(scores))
        for shift, score in zip(shifts, scores):
            self.assertTrue(lies(points, shift, score), (scores, found))
            for pair in points + shifts:
                self.assertEqual([type(pair), type(pair[0]), type(pair[1])], [tuple, int, int])
        return len(points)

    def test_as_the_words_tell(self):
        seen = {}
        for number in range(60):
            dice = random.Random(number)
            scores = [score for pair in some_scores(2, number + 100) for score in pair][:dice.randint(2, 4)]
            if dice.random() < 0.5:
                scores = [score_at([(x + 9 * k, y + k) for x, y in points_of(scores[0]) if dice.random() < 0.8])
                          for k in range(len(scores))]
            wanted = 0 if () in scores else most_in_several(scores)
            for own in (scores, scores[::-1]):
                self.assertEqual(self.check_several(tuple(own)), wanted)
            seen[len(scores), wanted > 2] = True
        for many in (2, 3, 4):
            self.assertIn((many, True), seen)
            self.assertIn((many, False), seen)

    def test_scores_that_stand_there_twice_or_shifted(self):
        later = score_at([(x + 700, y - 30) for x, y in points_of(A)])
        for scores in ((A, A), (A, A, A), (A, A, A, A), (A, later), (later, A, A), (A, later, A, later)):
            self.assertEqual(self.check_several(scores), 3)
        for scores in ((A, B, A), (A, later, B), (B, A, B, later)):
            self.assertEqual(self.check_several(scores), 2)
        for scores in itertools.permutations((A, B, CHORD)):
            self.assertEqual(self.check_several(scores), 1)

    def test_chords_count(self):
        chord = score_at([(4, 10), (4, 14), (4, 17), (9, 3)])
        self.assertEqual(self.check_several((CHORD, chord)), 2)
        self.assertEqual(several((CHORD, chord)), (((0, 0), (0, 4)), ((0, 60), (4, 10))))
        self.assertEqual(self.check_several((chord, chord[:3], chord)), 3)

    def test_a_score_without_a_note(self):
        wide = score_at(flat(60))
        for scores in (((), A), (A, ()), ((), ()), (A, (), B), (wide, wide, wide, ()), ((), (), (), ())):
            check_call(self, several, ((), ()), scores=scores)

    def test_unfit(self):
        wide = score_at(flat(60))
        for scores in ((), (A,), ((),), (wide,), (A,) * 5, ((),) * 5, (A,) * 6, (wide,) * 5, (wide,) * 12):
            check_call(self, several, Unfit(), scores=scores)

    def test_20000_and_more(self):
        def of(*sizes):
            return tuple([score_at(flat(size, 60 + place)) for place, size in enumerate(sizes)])
        for sizes in ((50, 20, 20), (60, 60), (10, 40, 50), (25, 20, 40, 1), (5, 40, 10, 10), (60, 37, 9), (1, 1, 1, 1)):
            self.assertEqual(self.check_several(of(*sizes)), min(sizes))
        for sizes in ((50, 20, 21), (60, 60, 6), (60, 60, 60), (29, 23, 30), (12, 12, 12, 12), (60, 60, 60, 60),
                      (60, 60, 2, 3), (23, 30, 29)):
            check_call(self, several, TooMany(20000), scores=of(*sizes))
        # Points are counted, not notes.
        self.assertEqual(self.check_several(of(33, 6, 6, 15)), 6)
        doubled = tuple(sorted([(k, 60, voice, 1) for k in range(20) for voice in (0, 4, 5)]))
        self.assertEqual(self.check_several((doubled, doubled, of(50)[0])), 20)

    def test_as_the_first_two_in_common(self):
        # What [D5] says: not fewer than common tells for shifts.
        for score, other in some_scores(80, 6):
            self.assertGreaterEqual(self.check_several((score, other)), common(score, other, "shift")[0])


class HoldsTest(unittest.TestCase):
    """What [D5] says of what scores have in common."""

    def test_exchanged(self):
        for score, other in some_scores(80, 7):
            for kind in KINDS:
                many, moves = common(score, other, kind)
                wanted = (many, tuple(sorted([undone(move) for move in moves])))
                check_call(self, common, wanted, score=other, other=score, kind=kind)
                self.assertEqual(likeness(score, other, kind), likeness(other, score, kind))

    def test_wider_kinds(self):
        for score, other in some_scores(60, 8):
            for narrow, wide in WITHIN:
                self.assertLessEqual(common(score, other, narrow)[0], common(score, other, wide)[0])

    def test_led_scores(self):
        told = 0
        for (score, _), move in zip(some_scores(300, 9), some_moves(300, 9)):
            later = move[:1] + ((abs(move[1][0]) + 60, move[1][1]),) + move[2:3] + (60,)
            points = led(later, points_of(score))
            if points and points[0][0] != points[-1][0] and points[0][0] >= 0:
                other = tuple([point + (3, 5) for point in points])
                for kind in KINDS:
                    if is_of(kind, later):
                        check_call(self, likeness, (1, 1), score=other, other=score, kind=kind)
                        self.assertIn(later, common(score, other, kind)[1])
                        told += 1
        self.assertGreater(told, 100)

    def test_other_voices_and_lengths(self):
        for score, other in some_scores(40, 10):
            changed = tuple(sorted([(x, y, 7 - voice, 9) for x, y, voice, _ in score]))
            for kind in KINDS:
                self.assertEqual(common(changed, other, kind), common(score, other, kind))
                self.assertEqual(likeness(other, changed, kind), likeness(other, score, kind))


if __name__ == "__main__":
    unittest.main()
