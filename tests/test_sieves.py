"""Sieves: heardagain.sieves, [H4], [H5] and [A2] (g)."""

import random
import unittest
from unittest import mock

from heardagain.errors import NoKind, TooMany, Unfit
from heardagain.keys import need
from heardagain.places import places
from heardagain.scores import points_of
from heardagain.sieves import sieve, sifted
from tests.helper import KINDS, NO_KINDS, check_call, check_examples, flat, score_at, some_cases
from tests.test_keys import told_flat, told_need, told_steps

EXAMPLES = """
    >>> hook = ((0, 0), (2, 2), (4, 0))
    >>> from heardagain.sieves import sieve, sifted
    >>> first = ((0, 60, 0, 1), (2, 62, 0, 1), (4, 60, 0, 1))
    >>> second = ((0, 60, 0, 1), (1, 61, 0, 1), (2, 62, 0, 1))
    >>> third = ((0, 60, 0, 1), (2, 62, 0, 1), (10, 60, 0, 1), (12, 58, 0, 1), (20, 70, 0, 1), (24, 70, 0, 1))
    >>> sieve((first, second, third), hook, 3, 4, "shift"), sieve((first, second, third), hook, 2, 2, "shift"), sieve((), hook, 3, 4, "flip")
    ((0, 2), (0, 1, 2), ())
    >>> sifted((first, second, third), hook, 3, 4, "shift")
    ((0, ((((1, 1), (0, 1), 1, 60), ((0, 0), (2, 2), (4, 0))),)),)
    >>> sieve((second,), hook, 3, 4, "flip"), sieve((third,), hook, 3, 4, "flip")
    ((), (0,))
"""

HOOK = ((0, 0), (2, 2), (4, 0))
FIRST = ((0, 60, 0, 1), (2, 62, 0, 1), (4, 60, 0, 1))
HUGE = 10 ** 399


def told_sieve(scores, figure, least, width, kind):
    """Return the places of the scores that share enough, by all pairs of points and all choices."""
    told = told_steps if kind == "shift" else told_flat
    found = []
    for place, score in enumerate(scores):
        if sum((told(points_of(score), width) & told(figure, width)).values()) >= told_need(figure, least, width):
            found.append(place)
    return tuple(found)


def told_sifted(scores, figure, least, kind):
    """Return the pairs of the place of each score with a place of the figure, and these places, without a sieve."""
    found = [(place, places(score, figure, kind, least)) for place, score in enumerate(scores)]
    return tuple([pair for pair in found if pair[1]])


def some_shelves(many, seed):
    """Return so many pairs of a tuple of scores and a figure, which is heard in some of them, whole or in part."""
    dice = random.Random(seed)
    cases = some_cases(many * 3, seed)
    found = []
    for at in range(many):
        scores = [score for score, _ in cases[3 * at:3 * at + 3]] + [(), ((5, 60, 0, 1),)]
        figure = cases[3 * at][1]
        sign = dice.choice((1, -1))
        heard = [(x + 20, sign * y + 50) for x, y in figure if dice.random() < 0.8]
        scores.append(tuple(sorted({point + (dice.choice((0, 2)), 1) for point in heard * 2})))
        dice.shuffle(scores)
        found.append((tuple(scores), figure))
    return found


class ExamplesTest(unittest.TestCase):
    def test_examples(self):
        self.assertEqual(check_examples(self, EXAMPLES), 3)


class SieveTest(unittest.TestCase):
    def test_as_the_words_tell(self):
        left_out = {}
        for scores, figure in some_shelves(50, 1):
            for kind in ("shift", "flip"):
                for width in (0, 1, 2, 3, 5, 9, 9999, HUGE):
                    for least in range(2, len(figure) + 1):
                        wanted = told_sieve(scores, figure, least, width, kind)
                        check_call(self, sieve, wanted, scores=scores, figure=figure, least=least, width=width, kind=kind)
                        left_out[kind, len(wanted) < len(scores), len(wanted) > 0] = True
        for kind in ("shift", "flip"):
            for rest in ((True, True), (True, False), (False, True)):
                self.assertIn((kind,) + rest, left_out)

    def test_just_enough_and_one_too_few(self):
        # hook has three steps for the width 4, and all are needed; each score has some of them, far from one another.
        two = ((0, 60, 0, 1), (2, 62, 0, 1), (10, 60, 0, 1), (12, 58, 0, 1))
        three = two + ((20, 70, 0, 1), (24, 70, 0, 1))
        check_call(self, sieve, (1,), scores=(two, three), figure=HOOK, least=3, width=4, kind="shift")
        check_call(self, sieve, (1,), scores=(two, three), figure=HOOK, least=3, width=4, kind="flip")
        # For the width 2 only two are needed.
        check_call(self, sieve, (0, 1), scores=(two, three), figure=HOOK, least=3, width=2, kind="shift")
        # A step that comes twice in the score, but once in the figure, is shared once.
        twice = ((0, 60, 0, 1), (2, 62, 0, 1), (10, 60, 0, 1), (12, 62, 0, 1), (20, 70, 0, 1), (24, 70, 0, 1))
        check_call(self, sieve, (), scores=(twice,), figure=HOOK, least=3, width=4, kind="shift")
        check_call(self, sieve, (0,), scores=(twice,), figure=HOOK, least=3, width=4, kind="flip")

    def test_none_needed(self):
        scores = ((), ((5, 60, 0, 1),), FIRST, ())
        for kind in ("shift", "flip"):
            check_call(self, sieve, (0, 1, 2, 3), scores=scores, figure=HOOK, least=2, width=2, kind=kind)
            check_call(self, sieve, (2,), scores=scores, figure=HOOK, least=2, width=4, kind=kind)
            check_call(self, sieve, (0, 1, 2, 3), scores=scores, figure=HOOK, least=3, width=1, kind=kind)

    def test_several_voices_at_one_point(self):
        voices = tuple(sorted([(onset, pitch, voice, 1) for onset, pitch, _, _ in FIRST for voice in range(8)]))
        one = tuple([(0, 60, voice, 1) for voice in range(8)])
        for kind in ("shift", "flip"):
            check_call(self, sieve, (0,), scores=(voices, one), figure=HOOK, least=3, width=4, kind=kind)
        # Eight notes are one point, so there is no step (0, 0).
        check_call(self, sieve, (), scores=(one,), figure=((0, 0), (0, 1), (5, 0)), least=2, width=9, kind="shift")

    def test_no_score_with_a_place_is_left_out(self):
        many = 0
        for scores, figure in some_shelves(120, 2):
            for kind in ("shift", "flip"):
                for least in range(2, len(figure) + 1):
                    held = [place for place, _ in told_sifted(scores, figure, least, kind)]
                    many += len(held)
                    for width in (0, 1, 2, 3, 4, 7, 30, 20000):
                        found = sieve(scores, figure, least, width, kind)
                        self.assertEqual([place for place in held if place not in found], [])
        self.assertGreater(many, 300)


class SiftedTest(unittest.TestCase):
    def test_as_the_words_tell(self):
        many = 0
        for scores, figure in some_shelves(40, 3):
            for kind in ("shift", "flip"):
                for least in range(2, len(figure) + 1):
                    wanted = told_sifted(scores, figure, least, kind)
                    many += len(wanted)
                    for width in (0, 1, 3, 9, HUGE):
                        check_call(self, sifted, wanted, scores=scores, figure=figure, least=least, width=width, kind=kind)
        self.assertGreater(many, 60)

    def test_no_scores(self):
        for kind in ("shift", "flip"):
            for scores in ((), ((),), ((), ()), (((3, 60, 0, 1),),)):
                check_call(self, sifted, (), scores=scores, figure=HOOK, least=2, width=0, kind=kind)

    def test_as_many_places_as_there_can_be(self):
        # By a flip each of 12 points comes to each of 60 ones two ways at most, and two of them are hits.
        figure, score = tuple(flat(12, 0)), score_at(flat(60))
        for kind in ("shift", "flip"):
            wanted = ((0, places(score, figure, kind, 2)),)
            self.assertEqual(len(wanted[0][1]), 69 * (1 if kind == "shift" else 2))
            check_call(self, sifted, wanted, scores=(score,), figure=figure, least=2, width=11, kind=kind)
        grid = score_at([(x, 60 + y) for x in range(10) for y in range(6)])
        figure = tuple([(x, y) for x in range(4) for y in range(3)])
        for kind in ("shift", "flip"):
            wanted = ((0, places(grid, figure, kind, 2)), (2, places(grid, figure, kind, 2)))
            self.assertGreater(len(wanted[0][1]), 60)
            check_call(self, sifted, wanted, scores=(grid, (), grid), figure=figure, least=2, width=3, kind=kind)


class ErrorsTest(unittest.TestCase):
    def test_too_many_places(self):
        # No score has so many places of these kinds; so what places raises goes on, if it raises anything.
        with mock.patch("heardagain.sieves.places", side_effect=TooMany(2000)):
            check_call(self, sifted, TooMany(2000), scores=((), FIRST), figure=HOOK, least=3, width=4, kind="shift")
            check_call(self, sifted, (), scores=((),), figure=HOOK, least=3, width=4, kind="shift")

    def check_both(self, wanted, **told):
        """Check what both defs raise, with scores and without."""
        for scores in ((), (FIRST,), ((), FIRST, ()), ((),)):
            check_call(self, sieve, wanted, scores=scores, **told)
            check_call(self, sifted, wanted, scores=scores, **told)

    def test_kinds(self):
        for kind in NO_KINDS:
            for least in (2, 1, 4):
                self.check_both(NoKind(kind), figure=HOOK, least=least, width=4, kind=kind)
        for kind in KINDS[2:]:
            self.assertNotIn(kind, ("shift", "flip"))
            for least in (2, 3, 1, 4):
                self.check_both(Unfit(), figure=HOOK, least=least, width=4, kind=kind)

    def test_least(self):
        for kind in ("shift", "flip"):
            for figure in (HOOK, HOOK[:2], tuple(flat(12))):
                for least in (1, 0, -1, len(figure) + 1, HUGE, -HUGE):
                    self.check_both(Unfit(), figure=figure, least=least, width=0, kind=kind)
                self.assertEqual(need(figure, 2, 0, kind), 0)


if __name__ == "__main__":
    unittest.main()
