"""Keys: heardagain.keys, [H1] to [H3] and [H5]."""

import random
import unittest
from collections import Counter
from itertools import combinations

from heardagain.errors import NoKind, Unfit
from heardagain.keys import flat_steps, need, shared_steps, steps
from heardagain.moves import is_of, led
from tests.helper import KINDS, NO_KINDS, ODD_VALUES, check_call, check_examples, flat, some_cases, some_moves

EXAMPLES = """
    >>> from heardagain.keys import flat_steps, need, shared_steps, steps
    >>> stair, chord = ((0, 60), (2, 62), (4, 64)), ((0, 60), (0, 64), (2, 62))
    >>> steps(stair, 2), steps(stair, 4), steps(stair, 1), steps((), 9)
    ((((2, 2), 2),), (((2, 2), 2), ((4, 4), 1)), (), ())
    >>> steps(chord, 2), flat_steps(chord, 2), steps(chord, 0)
    ((((0, 4), 1), ((2, -2), 1), ((2, 2), 1)), (((0, 4), 1), ((2, 2), 2)), (((0, 4), 1),))
    >>> shared_steps(steps(stair, 4), steps(chord, 4)), shared_steps(flat_steps(stair, 4), flat_steps(chord, 4))
    (1, 2)
    >>> hook = ((0, 0), (2, 2), (4, 0))
    >>> need(hook, 2, 2, "shift"), need(hook, 3, 2, "shift"), need(hook, 2, 4, "flip"), need(hook, 3, 4, "flip")
    (0, 2, 1, 3)
    >>> need(hook, 3, 4, "back")
    raises Unfit()
    >>> need(hook, 4, 4, "shift")
    raises Unfit()
    >>> need(hook, 3, 4, "Shift")
    raises NoKind('Shift')
"""

HOOK = ((0, 0), (2, 2), (4, 0))
HUGE = 10 ** 399


def told_steps(points, width):
    """Return how often each narrow step comes, as a Counter."""
    found = Counter()
    for one, two in combinations(sorted(points), 2):
        if two[0] - one[0] <= width:
            found[two[0] - one[0], two[1] - one[1]] += 1
    return found


def told_flat(points, width):
    """Return how often each narrow flat step comes, as a Counter."""
    found = Counter()
    for (dx, dy), many in told_steps(points, width).items():
        found[dx, abs(dy)] += many
    return found


def told_need(figure, least, width):
    """Return the least number of narrow steps of any so many points, going through all choices."""
    return min(sum(told_steps(lot, width).values()) for lot in combinations(figure, least))


def some_points(many, seed):
    """Return so many tuples of points, chords and far ones among them."""
    dice = random.Random(seed)
    found = [(), ((3, 60),), ((-9999, -9999), (9999, 9999)), ((0, 0), (0, 1)), ((0, -9999), (0, 9999))]
    while len(found) < many:
        wide, high, step = dice.choice(((6, 5, 1), (3, 9, 2), (12, 2, 1), (40, 40, 1), (4, 4, 7), (1, 12, 1)))
        own = {(dice.randrange(wide) * step - 5, dice.randrange(high) - 3) for _ in range(dice.randint(0, 14))}
        found.append(tuple(sorted(own)))
    return found


def widths(points):
    """Return widths to look at: none, each distance of two of the points, one less and one more, and far ones."""
    far = {x - y for x, _ in points for y, _ in points if x > y}
    return sorted({0, 1, 9999, 19998, 20000, HUGE} | far | {one - 1 for one in far} | {one + 1 for one in far})


class ExamplesTest(unittest.TestCase):
    def test_examples(self):
        self.assertEqual(check_examples(self, EXAMPLES), 7)


class StepsTest(unittest.TestCase):
    def test_beside_all_pairs(self):
        for points in some_points(60, 1):
            for width in widths(points):
                check_call(self, steps, tuple(sorted(told_steps(points, width).items())), points=points, width=width)
                check_call(self, flat_steps, tuple(sorted(told_flat(points, width).items())), points=points, width=width)

    def test_widths(self):
        points = ((0, 60), (3, 61), (7, 59))
        for width, wanted in ((0, ()), (2, ()), (3, ((3, 1),)), (4, ((3, 1), (4, -2))), (6, ((3, 1), (4, -2))),
                              (7, ((3, 1), (4, -2), (7, -1))), (HUGE, ((3, 1), (4, -2), (7, -1)))):
            check_call(self, steps, tuple([(step, 1) for step in wanted]), points=points, width=width)
            check_call(self, flat_steps, tuple([((dx, abs(dy)), 1) for dx, dy in wanted]), points=points, width=width)

    def test_chords(self):
        chord = ((5, 60), (5, 64), (5, 67))
        for width in (0, 1, HUGE):
            wanted = (((0, 3), 1), ((0, 4), 1), ((0, 7), 1))
            check_call(self, steps, wanted, points=chord, width=width)
            check_call(self, flat_steps, wanted, points=chord, width=width)

    def test_none_and_one_point(self):
        for points in ((), ((0, 0),), ((-9999, 9999),)):
            for width in (0, 1, HUGE):
                check_call(self, steps, (), points=points, width=width)
                check_call(self, flat_steps, (), points=points, width=width)

    def test_far_points(self):
        check_call(self, steps, (((19998, -19998), 1),), points=((-9999, 9999), (9999, -9999)), width=19998)
        check_call(self, flat_steps, (((19998, 19998), 1),), points=((-9999, 9999), (9999, -9999)), width=19998)
        check_call(self, steps, (), points=((-9999, 9999), (9999, -9999)), width=19997)

    def test_60_points(self):
        row = tuple(flat(60))
        for width in (0, 1, 10, 59, 60):
            wanted = tuple([((far, 0), 60 - far) for far in range(1, min(width, 59) + 1)])
            check_call(self, steps, wanted, points=row, width=width)
            check_call(self, flat_steps, wanted, points=row, width=width)

    def test_no_step_stands_twice_and_all_are_counted(self):
        for points in some_points(40, 2):
            for width in widths(points):
                for function in (steps, flat_steps):
                    found = function(points, width)
                    self.assertEqual(sorted({step for step, _ in found}), [step for step, _ in found])
                    self.assertEqual(sum([many for _, many in found]), sum(told_steps(points, width).values()))

    def test_led_by_shifts_and_by_flips(self):
        turned = 0
        for points, move in zip(some_points(400, 3), some_moves(400, 3)):
            own = ((1, 1), (move[1][0], 1), move[2], move[3])
            later = led(own, points)
            if later is not None:
                for width in (0, 1, 3, 20, 9999):
                    if is_of("shift", own):
                        self.assertEqual(steps(later, width), steps(points, width))
                    else:
                        turned += steps(later, width) != steps(points, width)
                    self.assertEqual(flat_steps(later, width), flat_steps(points, width))
        self.assertGreater(turned, 20)


class SharedStepsTest(unittest.TestCase):
    def test_both_ways_about(self):
        drawn = some_points(40, 4)
        for some, others in zip(drawn, drawn[1:] + drawn[:1]):
            for width in (0, 1, 2, 5, 9999):
                for told, function in ((told_steps, steps), (told_flat, flat_steps)):
                    one, two = function(some, width), function(others, width)
                    wanted = sum((told(some, width) & told(others, width)).values())
                    check_call(self, shared_steps, wanted, some=one, others=two)
                    check_call(self, shared_steps, wanted, some=two, others=one)

    def test_with_none_and_with_itself(self):
        for points in some_points(30, 5):
            for width in (0, 2, 9999):
                for function in (steps, flat_steps):
                    own = function(points, width)
                    check_call(self, shared_steps, 0, some=own, others=())
                    check_call(self, shared_steps, 0, some=(), others=own)
                    check_call(self, shared_steps, sum([many for _, many in own]), some=own, others=own)
        check_call(self, shared_steps, 0, some=(), others=())

    def test_several_times_on_one_side(self):
        one, two = (((1, 0), 5), ((2, 2), 1), ((3, -1), 2)), (((1, 0), 1), ((2, -2), 9), ((3, -1), 3), ((3, 1), 4))
        check_call(self, shared_steps, 3, some=one, others=two)
        check_call(self, shared_steps, 3, some=two, others=one)
        check_call(self, shared_steps, 5, some=one[:1], others=(((1, 0), 7),))
        check_call(self, shared_steps, 0, some=(((1, 0), 1),), others=(((0, 1), 1),))


class NeedTest(unittest.TestCase):
    def test_beside_all_choices(self):
        for _, figure in some_cases(60, 6):
            for width in widths(figure):
                for least in range(2, len(figure) + 1):
                    wanted = told_need(figure, least, width)
                    check_call(self, need, wanted, figure=figure, least=least, width=width, kind="shift")
                    check_call(self, need, wanted, figure=figure, least=least, width=width, kind="flip")

    def test_12_points(self):
        figures = (tuple(flat(12)), ((0, 0), (0, 1), (0, 2), (0, 3), (1, 0), (1, 1), (1, 2), (2, 0), (2, 1), (3, 5), (9, 0), (9, 9)))
        for figure in figures:
            for width in (0, 1, 2, 11, HUGE):
                for least in range(2, 13):
                    wanted = told_need(figure, least, width)
                    check_call(self, need, wanted, figure=figure, least=least, width=width, kind="flip")
        check_call(self, need, 66, figure=figures[0], least=12, width=11, kind="shift")
        check_call(self, need, 11, figure=figures[0], least=12, width=1, kind="shift")

    def test_figures_of_two_points(self):
        for width, wanted in ((0, 0), (3, 0), (4, 1), (5, 1)):
            check_call(self, need, wanted, figure=((0, 0), (4, 0)), least=2, width=width, kind="shift")

    def test_kinds_that_are_none(self):
        for kind in NO_KINDS:
            for least in (2, 3, 4, 1, 0, -HUGE):
                check_call(self, need, NoKind(kind), figure=HOOK, least=least, width=4, kind=kind)

    def test_kinds_that_do_not_fit(self):
        for kind in KINDS:
            for least in (2, 3):
                for width in (0, 2, 4, HUGE):
                    if kind not in ("shift", "flip"):
                        check_call(self, need, Unfit(), figure=HOOK, least=least, width=width, kind=kind)
                    else:
                        check_call(self, need, told_need(HOOK, least, width), figure=HOOK, least=least, width=width,
                                   kind=kind)

    def test_least(self):
        for kind in KINDS:
            for figure in (HOOK, HOOK[:2], tuple(flat(12))):
                for least in (1, 0, -1, -2, len(figure) + 1, 13, HUGE, -HUGE):
                    check_call(self, need, Unfit(), figure=figure, least=least, width=4, kind=kind)

    def test_led_by_a_flip(self):
        for _, figure in some_cases(40, 7):
            turned = led(((1, 1), (4, 1), -1, 3), figure)
            for least in range(2, len(figure) + 1):
                for width in (0, 1, 2, 4):
                    self.assertEqual(need(turned, least, width, "flip"), need(figure, least, width, "shift"))

    def test_odd_values_are_no_kinds(self):
        for value in ODD_VALUES:
            check_call(self, need, NoKind(value), figure=HOOK, least=2, width=0, kind=value)


if __name__ == "__main__":
    unittest.main()
