"""Places: heardagain.places, [C1] to [C4] and [C6]."""

import random
import unittest

from heardagain.errors import NoKind, TooMany, Unfit
from heardagain.figures import leads
from heardagain.moves import behind, is_of, lands, led, move_error
from heardagain.places import best, hits, places, tally, whole
from heardagain.scores import points_of
from tests.helper import (KINDS, NO_KINDS, ODD_VALUES, STILL, check_call, check_examples, flat, raised, same, same_error,
                          score_at, some_cases, some_moves, told_hits, told_moves)

EXAMPLES = """
    >>> from heardagain.places import best, hits, places, tally, whole
    >>> figure = ((0, 0), (1, 2), (2, 1))
    >>> tune = ((0, 0, 0, 1), (1, 2, 0, 1), (2, 1, 0, 1), (3, 3, 0, 1), (4, 2, 0, 1))
    >>> hits(tune, figure, ((1, 1), (2, 1), 1, 1)), hits(tune, figure, ((1, 1), (1, 1), 1, 2)), hits(tune, figure, ((1, 1), (0, 1), 1, 9))
    (((0, 0), (1, 2), (2, 1)), ((0, 0), (2, 1)), ())
    >>> hits(tune, figure, ((-1, 1), (3, 1), -1, 3)), hits(tune, figure, ((1, 2), (0, 1), 1, 0))
    (((0, 0), (1, 2), (2, 1)), ((0, 0),))
    >>> places(tune, figure, "shift", 3)
    ((((1, 1), (0, 1), 1, 0), ((0, 0), (1, 2), (2, 1))), (((1, 1), (2, 1), 1, 1), ((0, 0), (1, 2), (2, 1))))
    >>> [move for move, own in places(tune, figure, "shift", 2)]
    [((1, 1), (0, 1), 1, 0), ((1, 1), (1, 1), 1, 2), ((1, 1), (2, 1), 1, 1)]
    >>> chord = ((0, 5, 0, 1), (0, 9, 0, 1))
    >>> places(chord, ((0, 0), (0, 4), (1, 0)), "all", 2), places((), figure, "both", 2)
    ((), ())
    >>> places(tune, figure, "shift", 4)
    raises Unfit()
    >>> places(tune, figure, "sideways", 4)
    raises NoKind('sideways')
    >>> whole(tune, figure, "shift"), whole(tune, figure, "slow") == whole(tune, figure, "shift")
    ((((1, 1), (0, 1), 1, 0), ((1, 1), (2, 1), 1, 1)), True)
    >>> whole(tune, figure, "both")
    (((-1, 1), (3, 1), -1, 3), ((1, 1), (0, 1), 1, 0), ((1, 1), (2, 1), 1, 1))
    >>> whole(tune, ((0, 0), (2, 2)), "slow")
    (((1, 2), (0, 1), 1, 0), ((1, 2), (2, 1), 1, 1), ((2, 1), (0, 1), 1, 0))
    >>> best(tune, figure, "shift"), tally(tune, figure, "shift"), best(chord, figure, "all"), tally(chord, figure, "all")
    ((3, (((1, 1), (0, 1), 1, 0), ((1, 1), (2, 1), 1, 1))), ((2, 1), (3, 2)), (0, ()), ())
"""

FIGURE = ((0, 0), (1, 2), (2, 1))
TUNE = ((0, 0, 0, 1), (1, 2, 0, 1), (2, 1, 0, 1), (3, 3, 0, 1), (4, 2, 0, 1))
PAIR = ((0, 0), (1, 0))
DOZEN = tuple([(k * k, 0) for k in range(12)])
# Pairs of notes of one pitch: 992 + 6 + 2, each told by two moves of PAIR.
JUST_2000 = score_at(flat(32) + flat(3, 61) + flat(2, 62))


def told_places(score, figure):
    """Return all places of the kind all for 2, each with its hits."""
    return tuple([(move, told_hits(score, figure, move)) for move in told_moves(score, figure)])


class ExamplesTest(unittest.TestCase):
    def test_examples(self):
        self.assertEqual(check_examples(self, EXAMPLES), 11)


class HitsTest(unittest.TestCase):
    def test_as_the_words_tell(self):
        many = 0
        for (score, figure), move in zip(some_cases(300, 1), some_moves(300, 1)):
            near = move[:3] + (move[3] % 4,)
            for own in (move, near, STILL):
                wanted = told_hits(score, figure, own)
                check_call(self, hits, wanted, score=score, figure=figure, move=own)
                many += len(wanted) > 0
        self.assertGreater(many, 40)

    def test_hits_of_one_onset_count_here(self):
        chord = ((0, 5, 0, 1), (0, 9, 0, 1))
        check_call(self, hits, ((0, 0), (0, 4)), score=chord, figure=((0, 0), (0, 4), (1, 0)), move=STILL[:3] + (5,))

    def test_several_voices_at_one_point(self):
        score = ((0, 0, 0, 1), (0, 0, 5, 2), (1, 2, 1, 1), (1, 2, 2, 1), (1, 2, 7, 1))
        check_call(self, hits, FIGURE[:2], score=score, figure=FIGURE, move=STILL)

    def test_empty_score(self):
        check_call(self, hits, (), score=(), figure=FIGURE, move=STILL)

    def test_any_move(self):
        huge = 10 ** 399
        for move in (((huge, 1), (huge, 1), 1, 0), ((1, huge), (1, huge), -1, huge), ((1, 1), (0, 1), 1, -huge)):
            check_call(self, hits, (), score=TUNE, figure=FIGURE, move=move)
        check_call(self, hits, FIGURE[:1], score=TUNE, figure=FIGURE, move=((huge, 1), (0, 1), 1, 0))


class PlacesTest(unittest.TestCase):
    def test_as_the_words_tell(self):
        seen = {}
        for score, figure in some_cases(120, 2):
            told = told_places(score, figure)
            for kind in KINDS:
                own = [(move, those) for move, those in told if is_of(kind, move)]
                for least in range(2, len(figure) + 1):
                    wanted = tuple([pair for pair in own if len(pair[1]) >= least])
                    check_call(self, places, wanted, score=score, figure=figure, kind=kind, least=least)
                    seen[kind, least, len(wanted) > 0] = True
                for move, _ in own:
                    (above, below), t, e, _ = move
                    seen[kind, above < 0, below > 1, t[1] > 1, e] = True
        for kind in KINDS:
            self.assertIn((kind, 4, True), seen)
        # Of a whole q each t is whole, as two points come to points.
        for back in (False, True):
            for broken, late in ((False, False), (True, False), (True, True)):
                self.assertIn(("all", back, broken, late, -1), seen)
        self.assertIn(("slow", False, True, True, 1), seen)

    def test_moves_are_moves(self):
        for score, figure in some_cases(40, 3):
            for move, own in places(score, figure, "all", 2):
                self.assertIsNone(move_error(move))
                self.assertTrue(same(own, hits(score, figure, move)))

    def test_all_moves_without_stretching(self):
        # All moves that could be are tried one by one.
        for score, figure in some_cases(12, 4):
            tried = [((q, 1), (t, 1), e, v) for q in (-1, 1) for t in range(-20, 21) for e in (-1, 1)
                     for v in range(-9, 10)]
            for kind in ("shift", "flip", "back", "both"):
                own = [(move, hits(score, figure, move)) for move in tried if is_of(kind, move)]
                wanted = tuple([(move, those) for move, those in own if len({x for x, _ in those}) > 1])
                self.assertTrue(same(places(score, figure, kind, 2), wanted))

    def test_q_that_is_no_whole_number_or_below_0(self):
        figure = ((0, 0), (2, 1), (5, 3))
        score = score_at([(3, 60), (6, 61), (20, 64)])
        wanted = (((3, 2), (3, 1), 1, 60), figure[:2])
        self.assertIn(wanted, places(score, figure, "slow", 2))
        back = score_at([(9, 60), (6, 61)])
        self.assertIn((((-3, 2), (9, 1), 1, 60), figure[:2]), places(back, figure, "all", 2))
        self.assertEqual(places(back, figure[:2], "slow", 2), ())
        upside = score_at([(9, 60), (8, 59), (0, 0)])
        self.assertIn((((-1, 2), (9, 1), -1, 60), figure[:2]), places(upside, figure, "all", 2))
        check_call(self, whole, (((1, 3), (7, 3), 1, 5),), score=score_at([(3, 5), (4, 7)]), figure=((2, 0), (5, 2)),
                   kind="slow")

    def test_hits_of_one_onset_alone_are_no_place(self):
        figure = ((0, 0), (0, 4), (0, 7), (1, 0))
        chord = score_at([(5, 60), (5, 64), (5, 67)])
        for kind in KINDS:
            check_call(self, places, (), score=chord, figure=figure, kind=kind, least=2)
            check_call(self, places, (), score=chord, figure=figure, kind=kind, least=3)
            check_call(self, best, (0, ()), score=chord, figure=figure, kind=kind)
            check_call(self, tally, (), score=chord, figure=figure, kind=kind)
            check_call(self, whole, (), score=chord, figure=figure, kind=kind)
        more = score_at([(5, 60), (5, 64), (6, 60)])
        wanted = ((STILL[:1] + ((5, 1), 1, 60), ((0, 0), (0, 4), (1, 0))),)
        check_call(self, places, wanted, score=more, figure=figure, kind="shift", least=2)

    def test_empty_scores_and_single_notes(self):
        for score in ((), TUNE[:1], ((0, 0, 0, 1), (0, 0, 1, 1), (0, 0, 7, 9))):
            for kind in KINDS:
                check_call(self, places, (), score=score, figure=FIGURE, kind=kind, least=2)
                check_call(self, best, (0, ()), score=score, figure=FIGURE, kind=kind)
                check_call(self, tally, (), score=score, figure=FIGURE, kind=kind)
                check_call(self, whole, (), score=score, figure=FIGURE, kind=kind)

    def test_several_voices_at_one_point(self):
        doubled = tuple(sorted(TUNE + tuple([(x, y, voice, 3) for x, y, _, _ in TUNE for voice in (2, 7)])))
        for kind in KINDS:
            for function in (best, tally, whole):
                check_call(self, function, function(TUNE, FIGURE, kind), score=doubled, figure=FIGURE, kind=kind)
            check_call(self, places, places(TUNE, FIGURE, kind, 2), score=doubled, figure=FIGURE, kind=kind, least=2)

    def test_the_ends_of_all_ranges(self):
        figure = ((-9999, -9999), (9999, 9999))
        score = score_at([(0, 0), (9999, 127), (9998, 0)])
        for kind in KINDS:
            check_call(self, places, (), score=score, figure=figure, kind=kind, least=2)
        figure = ((-9999, -9999), (0, -9872))
        for kind in KINDS:
            self.assertIn((((1, 1), (9999, 1), 1, 9999), figure), places(score, figure, kind, 2))


class LeastTest(unittest.TestCase):
    def test_wrong_least(self):
        for least in ODD_VALUES + (0, 1, -2, 4, 5, 12, 2000, True, "2", (2,), [2], [3], None, {2: 2}):
            check_call(self, places, Unfit(), score=TUNE, figure=FIGURE, kind="shift", least=least)

    def test_all_leasts(self):
        score = score_at([(k * k, 60) for k in range(12)])
        for least in range(0, 15):
            found = raised(lambda: places(score, DOZEN, "shift", least))
            if 2 <= least <= 12:
                self.assertIsInstance(found, tuple)
                self.assertIn(12, [len(own) for _, own in found])
                self.assertTrue(all(len(own) >= least for _, own in found))
            else:
                self.assertTrue(same_error(found, Unfit()))

    def test_least_is_asked_of_the_figure_not_of_the_score(self):
        check_call(self, places, (), score=TUNE[:1], figure=FIGURE, kind="all", least=3)
        check_call(self, places, Unfit(), score=TUNE, figure=FIGURE, kind="all", least=4)


class ErrorsTest(unittest.TestCase):
    def test_no_kinds(self):
        for kind in NO_KINDS:
            for least in (2, 4, None):
                check_call(self, places, NoKind(kind), score=TUNE, figure=FIGURE, kind=kind, least=least)
            for score in ((), TUNE):
                for function in (best, tally, whole):
                    check_call(self, function, NoKind(kind), score=score, figure=FIGURE, kind=kind)

    def test_order_of_errors(self):
        many = score_at(flat(33))
        for least in (3, 1, None, True):
            check_call(self, places, NoKind("fast"), score=many, figure=PAIR, kind="fast", least=least)
            check_call(self, places, Unfit(), score=many, figure=PAIR, kind="all", least=least)
        check_call(self, places, TooMany(2000), score=many, figure=PAIR, kind="all", least=2)
        check_call(self, tally, NoKind("fast"), score=many, figure=PAIR, kind="fast")

    def test_32_and_33_notes_of_one_pitch(self):
        for many, wanted in ((32, 1984), (33, 2112), (60, 7080)):
            score = score_at(flat(many))
            if wanted <= 2000:
                self.assertEqual(len(places(score, PAIR, "all", 2)), wanted)
                check_call(self, tally, ((2, wanted),), score=score, figure=PAIR, kind="all")
            else:
                check_call(self, places, TooMany(2000), score=score, figure=PAIR, kind="all", least=2)
                check_call(self, tally, TooMany(2000), score=score, figure=PAIR, kind="all")
            found = best(score, PAIR, "all")
            self.assertEqual((found[0], len(found[1])), (2, wanted))
            self.assertEqual(whole(score, PAIR, "all"), found[1])
            self.assertEqual(list(found[1]), sorted(set(found[1])))

    def test_just_2000_places(self):
        self.assertEqual(len(places(JUST_2000, PAIR, "all", 2)), 2000)
        check_call(self, tally, ((2, 2000),), score=JUST_2000, figure=PAIR, kind="all")
        alone = tuple(sorted(JUST_2000 + ((0, 63, 0, 1), (0, 62, 4, 1))))
        check_call(self, tally, ((2, 2000),), score=alone, figure=PAIR, kind="all")
        for note in ((2, 62, 0, 1), (50, 61, 0, 1), (50, 60, 0, 1), (1, 63, 0, 1)):
            more = tuple(sorted(alone + (note,)))
            check_call(self, places, TooMany(2000), score=more, figure=PAIR, kind="all", least=2)
            check_call(self, tally, TooMany(2000), score=more, figure=PAIR, kind="all")
            self.assertEqual(len(best(more, PAIR, "all")[1]), len(whole(more, PAIR, "all")))

    def test_just_2001_places(self):
        # No three of these notes lie as the figure, so each pair of them is a place by each two of its points.
        figure = ((0, 0), (1, 0), (5000, 0))
        score = score_at(flat(37) + flat(2, 61))
        self.assertEqual(tally(score_at(flat(36)), figure, "slow"), ((2, 1890),))
        self.assertEqual(tally(score_at(flat(37)), figure, "slow"), ((2, 1998),))
        for call in (lambda: places(score, figure, "slow", 2), lambda: tally(score, figure, "slow")):
            self.assertTrue(same_error(raised(call), TooMany(2000)))
        self.assertEqual((best(score, figure, "slow")[0], len(best(score, figure, "slow")[1])), (2, 2001))
        check_call(self, places, (), score=score, figure=figure, kind="slow", least=3)
        check_call(self, whole, (), score=score, figure=figure, kind="slow")

    def test_only_places_with_so_many_hits_are_counted(self):
        score = score_at([(k * k, 60) for k in range(33)])
        check_call(self, places, TooMany(2000), score=score, figure=DOZEN, kind="slow", least=2)
        check_call(self, tally, TooMany(2000), score=score, figure=DOZEN, kind="slow")
        found = places(score, DOZEN, "slow", 12)
        self.assertEqual([len(own) for _, own in found], [12] * len(found))
        self.assertEqual(tuple([move for move, _ in found]), whole(score, DOZEN, "slow"))
        self.assertIn((((4, 1), (0, 1), 1, 60), DOZEN), places(score_at([(4 * k * k, 60) for k in range(33)]), DOZEN,
                                                              "slow", 12))


class WholeBestTallyTest(unittest.TestCase):
    def test_as_the_words_tell(self):
        seen = {}
        for score, figure in some_cases(150, 5):
            told = told_places(score, figure)
            for kind in KINDS:
                sizes = [(len(own), move) for move, own in told if is_of(kind, move)]
                many = max([size for size, _ in sizes], default=0)
                wanted = tuple([move for size, move in sizes if size == len(figure)])
                check_call(self, whole, wanted, score=score, figure=figure, kind=kind)
                wanted = (many, tuple([move for size, move in sizes if size == many]))
                check_call(self, best, wanted, score=score, figure=figure, kind=kind)
                counts = {size: len([None for other, _ in sizes if other == size]) for size, _ in sizes}
                check_call(self, tally, tuple(sorted(counts.items())), score=score, figure=figure, kind=kind)
                seen[kind, many] = True
        for kind in KINDS:
            for many in (0, 2, 3, 4):
                self.assertIn((kind, many), seen)


class HoldsTest(unittest.TestCase):
    """What [C6] says of places."""

    def test_one_more_note(self):
        dice = random.Random(6)
        for score, figure in some_cases(60, 6):
            more = tuple(sorted(score + ((dice.randrange(8), dice.randrange(4), 6, 1),)))
            for kind in KINDS:
                behind_it = dict(places(more, figure, kind, 2))
                for move, own in places(score, figure, kind, 2):
                    self.assertIn(move, behind_it)
                    self.assertEqual([point for point in own if point not in behind_it[move]], [])

    def test_figures_that_are_led_to_themselves(self):
        for score, figure in some_cases(60, 7) + [(TUNE, ((0, 0), (0, 1), (1, 0), (1, 1)))]:
            for kind in KINDS:
                found = {move: len(own) for move, own in places(score, figure, kind, 2)}
                for own in leads(figure, figure, kind):
                    for move, many in found.items():
                        self.assertEqual(found.get(behind(own, move)), many)

    def test_scores_that_are_led(self):
        told = 0
        for (score, figure), move in zip(some_cases(400, 8), some_moves(400, 8)):
            later = move[:1] + ((abs(move[1][0]) + 40, move[1][1]),) + move[2:3] + (60,)
            points = led(later, points_of(score))
            if points is not None and all(x >= 0 for x, _ in points):
                other = tuple([point + (3, 5) for point in points])
                for kind in KINDS:
                    if is_of(kind, later):
                        wanted = sorted([(behind(own, later), those) for own, those in places(score, figure, kind, 2)])
                        self.assertTrue(same(places(other, figure, kind, 2), tuple(wanted)))
                        told += len(wanted) > 0
        self.assertGreater(told, 40)

    def test_kinds_within_others(self):
        within = (("shift", "flip"), ("shift", "back"), ("flip", "both"), ("back", "both"), ("both", "all"),
                  ("shift", "slow"), ("slow", "all"))
        for score, figure in some_cases(60, 9):
            for narrow, wide in within:
                wider = places(score, figure, wide, 2)
                for pair in places(score, figure, narrow, 2):
                    self.assertIn(pair, wider)

    def test_hits_come_to_points_of_the_score(self):
        for score, figure in some_cases(30, 10):
            for move, own in places(score, figure, "all", 2):
                for point in figure:
                    self.assertEqual(lands(move, point) in points_of(score), point in own)


if __name__ == "__main__":
    unittest.main()
