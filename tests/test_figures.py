"""Figures that are alike: heardagain.figures, [B6] to [B8]."""

import random
import unittest
from fractions import Fraction
from math import gcd

from heardagain.errors import NoKind
from heardagain.figures import alike, leads, normal
from heardagain.moves import is_of, led, move_error, undone
from heardagain.points import figure_error
from tests.helper import KINDS, NO_KINDS, STILL, as_move, check_call, check_examples, same, some_moves

EXAMPLES = """
    >>> from heardagain.moves import behind, fraction_error, is_of, lands, led, move_error, undone
    >>> up, half, turn = ((1, 1), (3, 1), 1, 5), ((1, 2), (0, 1), 1, 0), ((-1, 1), (4, 1), -1, 120)
    >>> tune = ((0, 60), (2, 64), (4, 62))
    >>> from heardagain.figures import alike, leads, normal
    >>> leads(tune, led(turn, tune), "both"), leads(tune, led(turn, tune), "flip"), leads(tune, tune, "all")
    ((((-1, 1), (4, 1), -1, 120),), (), (((1, 1), (0, 1), 1, 0),))
    >>> square = ((0, 0), (0, 1), (1, 0), (1, 1))
    >>> leads(square, square, "both")
    (((-1, 1), (1, 1), -1, 1), ((-1, 1), (1, 1), 1, 0), ((1, 1), (0, 1), -1, 1), ((1, 1), (0, 1), 1, 0))
    >>> alike(tune, ((1, 50), (2, 54), (3, 52)), "slow"), alike(tune, ((1, 50), (2, 54), (3, 52)), "both"), leads(((1, 50), (2, 54), (3, 52)), tune, "slow")
    (True, False, (((2, 1), (-2, 1), 1, 10),))
    >>> normal(tune, "shift"), normal(tune, "flip"), normal(tune, "back")
    (((0, 0), (2, 4), (4, 2)), ((0, 0), (2, -4), (4, -2)), ((0, 0), (2, 2), (4, -2)))
    >>> normal(tune, "both"), normal(tune, "slow"), normal(tune, "all")
    (((0, 0), (2, -4), (4, -2)), ((0, 0), (1, 4), (2, 2)), ((0, 0), (1, -4), (2, -2)))
    >>> normal(square, "flip") == square, normal(led(turn, tune), "all") == normal(tune, "all")
    (True, True)
"""

TUNE = ((0, 60), (2, 64), (4, 62))
SQUARE = ((0, 0), (0, 1), (1, 0), (1, 1))
CORNERS = ((-9999, -9999), (-9999, 9999), (9999, -9999), (9999, 9999))


def told_leads(figure, other, kind):
    """Return what leads returns: of all moves that two ends and two pitches tell, those that do so."""
    found = {}
    for (x, y), (end, high) in [(a, b) for a in figure for b in figure if a[0] < b[0]][:1]:
        for begin, low in other:
            for last, top in other:
                for e in (1, -1):
                    if begin != last and e * (high - y) == top - low:
                        q = Fraction(last - begin, end - x)
                        found[as_move(q, begin - q * x, e, low - e * y)] = True
    return tuple(sorted([move for move in found if is_of(kind, move) and led(move, figure) == other]))


def told_normal(figure, kind):
    """Return what [B7] tells, word by word."""
    def beginning(pairs):
        first = sorted(pairs)[0]
        return tuple(sorted((x - first[0], y - first[1]) for x, y in pairs))

    plain = beginning(figure)
    down = beginning([(x, -y) for x, y in figure])
    back = beginning([(-x, y) for x, y in figure])
    both = beginning([(-x, -y) for x, y in figure])
    forms = {"shift": [plain], "flip": [plain, down], "back": [plain, back], "both": [plain, down, back, both],
             "slow": [plain], "all": [plain, down, back, both]}
    form = min(forms[kind])
    if kind in ("slow", "all"):
        divisor = gcd(*[x for x, _ in form])
        form = tuple((x // divisor, y) for x, y in form)
    return form


def some_figures(many, seed):
    """Return so many figures, many of them alike."""
    dice = random.Random(seed)
    found = []
    while len(found) < many:
        step = dice.choice((1, 1, 2, 3))
        figure = tuple(sorted({(step * dice.randrange(4), dice.randrange(3)) for _ in range(dice.randint(2, 5))}))
        if figure_error(figure) is None:
            found.append(figure)
    return found


class ExamplesTest(unittest.TestCase):
    def test_examples(self):
        self.assertEqual(check_examples(self, EXAMPLES), 6)


class LeadsTest(unittest.TestCase):
    def test_as_the_words_tell(self):
        figures = some_figures(40, 1)
        sizes = {}
        for figure in figures:
            for other in figures:
                for kind in KINDS:
                    wanted = told_leads(figure, other, kind)
                    self.assertTrue(same(leads(figure, other, kind), wanted), (figure, other, kind))
                    sizes[len(wanted)] = True
        self.assertEqual(sorted(sizes), [0, 1, 2, 4])

    def test_each_move_leads_so(self):
        for figure, move in zip(some_figures(200, 2), some_moves(200, 2)):
            other = led(move, figure)
            if other is not None:
                for kind in KINDS:
                    found = leads(figure, other, kind)
                    self.assertEqual(move in found, is_of(kind, move))
                    self.assertEqual(list(found), sorted(set(found)))
                    for own in found:
                        self.assertIsNone(move_error(own))
                        self.assertEqual(led(own, figure), other)
                        self.assertTrue(is_of(kind, own))

    def test_back_by_the_undone_moves(self):
        figures = some_figures(30, 3)
        for figure in figures:
            for other in figures:
                for kind in KINDS:
                    wanted = tuple(sorted([undone(move) for move in leads(figure, other, kind)]))
                    check_call(self, leads, wanted, figure=other, other=figure, kind=kind)

    def test_far_out(self):
        two = ((-9999, -9999), (9999, 9999))
        wanted = (((-1, 1), (0, 1), -1, 0), STILL)
        check_call(self, leads, wanted, figure=two, other=two, kind="all")
        check_call(self, leads, wanted, figure=two, other=two, kind="both")
        check_call(self, leads, (STILL,), figure=two, other=two, kind="slow")
        four = tuple(sorted([((q, 1), (0, 1), e, 0) for q in (1, -1) for e in (1, -1)]))
        check_call(self, leads, four, figure=CORNERS, other=CORNERS, kind="both")
        here, there = ((-9999, 9990), (-9998, 9999)), ((9998, -9999), (9999, -9990))
        check_call(self, leads, (((1, 1), (19997, 1), 1, -19989),), figure=here, other=there, kind="shift")
        wide = ((-9999, 0), (9999, 1))
        check_call(self, leads, (((19998, 1), (9999, 1), 1, 0),), figure=((-1, 0), (0, 1)), other=wide, kind="slow")
        check_call(self, leads, (((1, 19998), (-1, 2), 1, 0),), figure=wide, other=((-1, 0), (0, 1)), kind="slow")

    def test_unlike_sizes(self):
        for kind in KINDS:
            check_call(self, leads, (), figure=SQUARE, other=SQUARE[:3], kind=kind)
            check_call(self, leads, (), figure=SQUARE[:3], other=SQUARE, kind=kind)
            check_call(self, alike, False, figure=((0, 0), (4, 0)), other=((0, 0), (1, 0), (4, 0)), kind=kind)

    def test_each_kind(self):
        up, down = ((0, 0), (1, 5), (3, 6)), ((0, 0), (1, -5), (3, -6))
        ahead, both = ((0, 6), (2, 5), (3, 0)), ((0, -6), (2, -5), (3, 0))
        slow, all_of_it = ((0, 0), (2, 5), (6, 6)), ((0, -6), (4, -5), (6, 0))
        wanted = {up: KINDS, down: ("flip", "both", "all"), ahead: ("back", "both", "all"), both: ("both", "all"),
                  slow: ("slow", "all"), all_of_it: ("all",)}
        for other, kinds in wanted.items():
            for kind in KINDS:
                check_call(self, alike, kind in kinds, figure=up, other=other, kind=kind)
                check_call(self, alike, kind in kinds, figure=other, other=up, kind=kind)

    def test_no_kinds(self):
        for kind in NO_KINDS:
            check_call(self, leads, NoKind(kind), figure=TUNE, other=SQUARE, kind=kind)
            check_call(self, alike, NoKind(kind), figure=TUNE, other=TUNE, kind=kind)
            check_call(self, normal, NoKind(kind), figure=TUNE, kind=kind)


class NormalTest(unittest.TestCase):
    def test_as_the_words_tell(self):
        for figure in some_figures(200, 4) + [TUNE, SQUARE, CORNERS, tuple((7 * k, k % 5) for k in range(12))]:
            for kind in KINDS:
                check_call(self, normal, told_normal(figure, kind), figure=figure, kind=kind)

    def test_beyond_the_bounds(self):
        two = ((-9999, 9999), (9999, -9999))
        check_call(self, normal, ((0, 0), (19998, -19998)), figure=two, kind="shift")
        check_call(self, normal, ((0, 0), (1, -19998)), figure=two, kind="all")

    def test_onsets_are_divided_once(self):
        figure = ((1, 3), (7, 0), (16, 3))
        check_call(self, normal, ((0, 0), (2, -3), (5, 0)), figure=figure, kind="slow")
        check_call(self, normal, ((0, 0), (6, -3), (15, 0)), figure=figure, kind="shift")
        check_call(self, normal, ((0, 0), (2, -3), (5, 0)), figure=figure, kind="all")

    def test_alike_exactly_if_normal_forms_are_one(self):
        figures = some_figures(60, 5) + [led(move, figure) for move, figure in zip(some_moves(40, 5), some_figures(40, 6))]
        figures = [figure for figure in figures if figure is not None]
        told = {}
        for kind in KINDS:
            for figure in figures:
                for other in figures:
                    found = alike(figure, other, kind)
                    self.assertIs(found, normal(figure, kind) == normal(other, kind))
                    self.assertIs(found, len(leads(figure, other, kind)) > 0)
                    told[kind, found] = True
        self.assertEqual(len(told), 12)


if __name__ == "__main__":
    unittest.main()
