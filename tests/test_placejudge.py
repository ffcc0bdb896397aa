"""What is wrong with places: heardagain.placejudge, [C5] and [C6]."""

import unittest

from heardagain.moves import is_of, move_error
from heardagain.placejudge import place_error
from heardagain.places import places
from tests.helper import (KINDS, ODD_VALUES, STILL, check_call, check_examples, same, score_at, some_cases, some_moves,
                          told_hits, told_moves)

EXAMPLES = """
    >>> from heardagain.places import best, hits, places, tally, whole
    >>> figure = ((0, 0), (1, 2), (2, 1))
    >>> tune = ((0, 0, 0, 1), (1, 2, 0, 1), (2, 1, 0, 1), (3, 3, 0, 1), (4, 2, 0, 1))
    >>> chord = ((0, 5, 0, 1), (0, 9, 0, 1))
    >>> from heardagain.placejudge import place_error
    >>> up = ((1, 1), (1, 1), 1, 2)
    >>> [place_error(tune, figure, "shift", 2, value) for value in ((up, ((0, 0), (2, 1))), (up, ((0, 0), (1, 2))), (up, [(0, 0), (2, 1)]), [up, ()], ((1, 1, 1, 2), ()))]
    [None, 'hits', 'hits', 'form', 'move']
    >>> place_error(tune, figure, "shift", 3, (up, ((0, 0), (2, 1)))), place_error(tune, figure, "shift", 2, (((-1, 1), (3, 1), -1, 3), figure))
    ('few', 'kind')
    >>> place_error(chord, ((0, 0), (0, 4), (1, 0)), "shift", 2, (((1, 1), (0, 1), 1, 5), ((0, 0), (0, 4))))
    'chord'
"""

FIGURE = ((0, 0), (1, 2), (2, 1))
TUNE = ((0, 0, 0, 1), (1, 2, 0, 1), (2, 1, 0, 1), (3, 3, 0, 1), (4, 2, 0, 1))
UP = ((1, 1), (1, 1), 1, 2)
UP_HITS = ((0, 0), (2, 1))
TURN = ((-1, 1), (3, 1), -1, 3)
NO_MOVES = ODD_VALUES + (list(UP), UP[:3], UP + (0,), ((0, 1),) + UP[1:], ((2, 2),) + UP[1:], (1,) + UP[1:],
                         ((True, 1),) + UP[1:], ([1, 1],) + UP[1:], ((1, 1), (2, 2), 1, 2), ((1, 1), 1, 1, 2),
                         ((1, 1), (1, True), 1, 2), ((1, 1), (1, 0), 1, 2), UP[:2] + (0, 2), UP[:2] + (True, 2),
                         UP[:2] + (2, 2), UP[:3] + (True,), UP[:3] + (None,), UP[:3] + ((2, 1),))


def told_error(score, figure, kind, least, value):
    """Return what the words of [C5] tell of a value."""
    if type(value) is not tuple or len(value) != 2:
        return "form"
    move, own = value
    if move_error(move) is not None:
        return "move"
    if not is_of(kind, move):
        return "kind"
    if not same(own, told_hits(score, figure, move)):
        return "hits"
    if len(own) < least:
        return "few"
    return "chord" if len({x for x, _ in own}) == 1 else None


def check(case, wanted, value, kind="shift", least=2, score=TUNE, figure=FIGURE):
    """Check what is told of a value."""
    check_call(case, place_error, wanted, score=score, figure=figure, kind=kind, least=least, value=value)


class ExamplesTest(unittest.TestCase):
    def test_examples(self):
        self.assertEqual(check_examples(self, EXAMPLES), 3)


class WordsTest(unittest.TestCase):
    def test_form(self):
        for value in ODD_VALUES + ([UP, UP_HITS], (UP,), (UP, UP_HITS, 2), UP, UP_HITS + UP_HITS, {UP: UP_HITS}):
            if type(value) is not tuple or len(value) != 2:
                check(self, "form", value)

    def test_move(self):
        for move in NO_MOVES:
            for own in (UP_HITS, (), None, [], ((0, 0),)):
                check(self, "move", (move, own))
                check(self, "move", (move, own), kind="all", least=3)

    def test_kind(self):
        # Moves of all kinds, each with hits that are wrong as well.
        for move in some_moves(60, 1) + [TURN, UP, STILL]:
            for kind in KINDS:
                if not is_of(kind, move):
                    for own in (told_hits(TUNE, FIGURE, move), None, ((9, 9),), (), FIGURE[::-1]):
                        check(self, "kind", (move, own), kind=kind)

    def test_hits(self):
        wrong = ODD_VALUES + (UP_HITS[:1], UP_HITS[::-1], FIGURE, UP_HITS + ((3, 3),), UP_HITS[1:], list(UP_HITS),
                              ([0, 0], (2, 1)), ((0, 0), (2, True)), ((0, False), (2, 1)), ((0, 0), (2, 1), (2, 1)),
                              ((0, 0), (2, 2)), ((1, 2), (3, 3)), (UP_HITS,), UP_HITS * 2, {(0, 0): (2, 1)})
        for own in wrong:
            for least in (2, 3):
                check(self, "hits", (UP, own), least=least)

    def test_true_is_not_1(self):
        check(self, None, (STILL, FIGURE))
        for own in (((0, 0), (True, 2), (2, 1)), ((False, 0), (1, 2), (2, 1)), ((0, 0), (1, 2), (2, True))):
            check(self, "hits", (STILL, own))

    def test_few(self):
        check(self, None, (UP, UP_HITS))
        check(self, "few", (UP, UP_HITS), least=3)
        # Fewer than two hits, and none, are few as well, not a chord.
        for move in (((1, 1), (0, 1), 1, 9), ((1, 1), (4, 1), 1, 2), ((1, 1), (50, 1), 1, 0)):
            own = told_hits(TUNE, FIGURE, move)
            self.assertLess(len(own), 2)
            check(self, "few", (move, own))

    def test_chord(self):
        figure = ((0, 0), (0, 4), (0, 7), (1, 0))
        score = score_at([(5, 60), (5, 64), (5, 67)])
        later = ((1, 1), (5, 1), 1, 60)
        for least, wanted in ((2, "chord"), (3, "chord"), (4, "few")):
            check(self, wanted, (later, figure[:3]), least=least, score=score, figure=figure)
        check(self, "hits", (later, figure[:2]), score=score, figure=figure)
        more = score_at([(5, 60), (5, 64), (6, 60)])
        check(self, None, (later, ((0, 0), (0, 4), (1, 0))), score=more, figure=figure)

    def test_two_faults_at_once(self):
        late = ((1, 1), (0, 1), 1, 9)
        for value, least, wanted in (
                ([UP[:3], None], 2, "form"), ((UP[:3], None, None), 2, "form"), ((UP[:3], None), 2, "move"),
                ((TURN[:3] + (None,), FIGURE), 2, "move"), ((TURN, None), 2, "kind"), ((TURN, ()), 3, "kind"),
                ((late, ((0, 0),)), 2, "hits"), ((late, []), 2, "hits"), ((late, ()), 2, "few"), ((late, ()), 3, "few")):
            check(self, wanted, value, least=least)

    def test_huge_moves(self):
        huge = 10 ** 399
        check(self, "few", (((huge, 1), (huge, 1), 1, huge), ()), kind="all")
        check(self, "hits", (((huge, 1), (huge, 1), 1, huge), FIGURE), kind="all")
        check(self, "kind", (((huge, 1), (0, 1), 1, 0), FIGURE[:1]), kind="both")
        check(self, "few", (((huge, 1), (0, 1), 1, 0), FIGURE[:1]), kind="slow")


class AsTheWordsTellTest(unittest.TestCase):
    def test_as_the_words_tell(self):
        seen = {}
        for (score, figure), far in zip(some_cases(60, 2), some_moves(60, 2)):
            moves = told_moves(score, figure)[:12] + [far, STILL]
            values = []
            for move in moves:
                own = told_hits(score, figure, move)
                values.extend([(move, own), (move, own[1:]), (move, figure), (move, list(own)), (move, own, own)])
            for value in values:
                for kind in KINDS:
                    for least in (2, len(figure)):
                        wanted = told_error(score, figure, kind, least, value)
                        self.assertEqual(place_error(score, figure, kind, least, value), wanted)
                        seen[kind, wanted] = True
        for kind in KINDS:
            for word in (None, "form", "hits", "few") + (("kind",) if kind != "all" else ()):
                self.assertIn((kind, word), seen)

    def test_just_what_is_let_by_is_told(self):
        # What [C6] says: of all moves without stretching that could be, the pairs that are let by are those of places.
        for score, figure in some_cases(12, 3):
            tried = [((q, 1), (t, 1), e, v) for q in (-1, 1) for t in range(-20, 21) for e in (-1, 1)
                     for v in range(-9, 10)]
            pairs = [(move, told_hits(score, figure, move)) for move in sorted(tried)]
            pairs = [(move, own) for move, own in pairs if len(own) > 1]
            for kind in ("shift", "flip", "back", "both"):
                for least in (2, len(figure)):
                    let_by = [pair for pair in pairs if place_error(score, figure, kind, least, pair) is None]
                    self.assertTrue(same(places(score, figure, kind, least), tuple(let_by)))

    def test_what_is_told_is_let_by(self):
        for score, figure in some_cases(60, 4):
            for kind in KINDS:
                for pair in places(score, figure, kind, 2):
                    check(self, None, pair, kind=kind, score=score, figure=figure)
                    check(self, None if len(pair[1]) == len(figure) else "few", pair, kind, len(figure), score, figure)


if __name__ == "__main__":
    unittest.main()
