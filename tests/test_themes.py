"""Writings that are changed: heardagain.themes, [F4] and [F5]."""

import random
import unittest

from heardagain.errors import Unfit
from heardagain.themes import joined_up, with_theme, without
from heardagain.written import given_by, placed, size, writing_error
from tests.helper import ODD_VALUES, check_call, check_examples, flat, raised, same, same_error, some_writings, sums

EXAMPLES = """
    >>> from heardagain.written import given_by, placed, size, writing_error
    >>> theme = ((0, 0), (1, 2), (2, 4))
    >>> three = ((theme, ((0, 60), (4, 60), (8, 62))),)
    >>> near = ((((0, 0), (1, 0)), ((0, 0), (1, 0))),)
    >>> from heardagain.themes import joined_up, with_theme, without
    >>> with_theme(three, 0, ((0, 0), (1, 2)))
    ((((0, 0), (1, 2)), ((0, 60), (4, 60), (8, 62))),)
    >>> with_theme(three, 0, ((1, 0),))
    raises Unfit()
    >>> with_theme(three, 1, theme)
    raises Unfit()
    >>> without(three, (5, 62))
    ((((0, 0),), ((4, 60), (6, 64))), (((0, 0), (1, 2), (2, 4)), ((0, 60), (8, 62))))
    >>> without(near, (1, 0)), without(near, (9, 9)) == near, placed(without(near, (1, 0)))
    (((((0, 0),), ((0, 0), (2, 0))),), True, ((0, 0), (2, 0)))
    >>> parted = ((theme, ((0, 60),)), (theme, ((4, 60), (8, 62))))
    >>> joined_up(parted) == three, size(parted), joined_up(three) == three
    (True, 9, True)
"""

ONE = ((0, 0),)
TWO = ((0, 0), (1, 0))
THEME = ((0, 0), (1, 2), (2, 4))
THREE = ((THEME, ((0, 60), (4, 60), (8, 62))),)
HUGE = 10 ** 399


def told_without(writing, point):
    """Return what comes of a writing, done as the words of [F4] tell, one thing behind another."""
    before = set().union(*[sums(*pair) for pair in writing])
    if point not in before:
        return writing
    pairs = [[theme, [shift for shift in shifts if point not in sums(theme, (shift,))]] for theme, shifts in writing]
    pairs = [pair for pair in pairs if pair[1]]
    after = set().union(*[sums(*pair) for pair in pairs])
    others = sorted(before - after - {point})
    if others:
        singles = [pair for pair in pairs if pair[0] == ONE]
        if not singles:
            singles = [[ONE, []]]
            pairs.extend(singles)
        singles[0][1].extend(others)
    return tuple(sorted({(theme, tuple(sorted(shifts))) for theme, shifts in pairs}))


class ExamplesTest(unittest.TestCase):
    def test_examples(self):
        self.assertEqual(check_examples(self, EXAMPLES), 6)


class WithThemeTest(unittest.TestCase):
    def test_themes_that_are_none(self):
        wrong = ODD_VALUES + ((), list(THEME), THEME[1:], THEME[::-1], ((0, 0), (0, 0)), ((1, 0),), ((-1, 0), (0, 0)),
                              ((0, 0), (10000, 0)), ((0, 0), (1, True)), ((False, 0),), ([0, 0],), ((0, 0, 0),),
                              tuple(flat(61, 0)), ((0, 0), 1))
        for theme in wrong:
            check_call(self, with_theme, Unfit(), writing=THREE, place=0, theme=theme)
            check_call(self, with_theme, Unfit(), writing=(), place=0, theme=theme)

    def test_places_that_are_none(self):
        two = ((ONE, ((9, 9),)),) + THREE
        for place in ODD_VALUES + (True, False, "0", "1", -1, -2, 2, 3, HUGE, -HUGE, None, (0,), [1], {0: 0}):
            if type(place) is not int or place not in (0, 1):
                check_call(self, with_theme, Unfit(), writing=two, place=place, theme=TWO)
        for place in (0, 1, -1, None):
            check_call(self, with_theme, Unfit(), writing=(), place=place, theme=TWO)
        check_call(self, with_theme, Unfit(), writing=THREE, place=1, theme=TWO)
        self.assertEqual(len(with_theme(two, 0, TWO)), 2)
        self.assertEqual(len(with_theme(two, 1, TWO)), 2)

    def test_two_pairs_alike(self):
        plays = ((0, 60), (4, 60))
        writing = ((ONE, plays), (TWO, plays), (THEME, plays[:1]))
        check_call(self, with_theme, Unfit(), writing=writing, place=0, theme=TWO)
        check_call(self, with_theme, Unfit(), writing=writing, place=1, theme=ONE)
        check_call(self, with_theme, writing, writing=writing, place=1, theme=TWO)
        # One theme with unlike shifts may stand twice.
        check_call(self, with_theme, ((ONE, plays[:1]), (ONE, plays), (TWO, plays)), writing=writing, place=2, theme=ONE)
        check_call(self, with_theme, ((ONE, plays), (TWO, plays[:1]), (TWO, plays)), writing=writing, place=2, theme=TWO)

    def test_the_pairs_are_put_in_order_again(self):
        writing = ((ONE, ((7, 7),)), (TWO, ((0, 60),)), (THEME, ((8, 62),)))
        check_call(self, with_theme, (writing[1], writing[2], (((0, 0), (5, 5)), ((7, 7),))), writing=writing, place=0,
                   theme=((0, 0), (5, 5)))
        check_call(self, with_theme, ((ONE, ((7, 7),)), (ONE, ((8, 62),)), writing[1]), writing=writing, place=2, theme=ONE)
        check_call(self, with_theme, (writing[0], writing[2], (THEME + ((9, 9),), ((0, 60),))), writing=writing, place=1,
                   theme=THEME + ((9, 9),))

    def test_too_many_points(self):
        writing = ((ONE, tuple(flat(30, 5))),)
        wanted = ((((0, 0), (0, 1)), tuple(flat(30, 5))),)
        check_call(self, with_theme, wanted, writing=writing, place=0, theme=((0, 0), (0, 1)))
        check_call(self, with_theme, Unfit(), writing=writing, place=0, theme=((0, 0), (0, 1), (0, 2)))
        check_call(self, with_theme, Unfit(), writing=writing, place=0, theme=((0, 0), (0, 1), (1, 1)))
        wanted = ((tuple(flat(31, 0)), tuple(flat(30, 5))),)
        check_call(self, with_theme, wanted, writing=writing, place=0, theme=tuple(flat(31, 0)))
        check_call(self, with_theme, wanted[:0] + ((ONE, ((99, 99),)),), writing=((TWO, ((99, 99),)),), place=0, theme=ONE)
        # 60 points are let, 61 are not.
        check_call(self, with_theme, Unfit(), writing=writing + ((ONE, ((99, 99),)),), place=0, theme=((0, 0), (0, 1)))
        check_call(self, with_theme, ((tuple(flat(60, 0)), ((1, 1),)),), writing=((ONE, ((1, 1),)),), place=0,
                   theme=tuple(flat(60, 0)))
        check_call(self, with_theme, Unfit(), writing=((ONE, ((1, 1), (2, 1))),), place=0, theme=tuple(flat(60, 0)))

    def test_points_too_far(self):
        for far, theme, right in (((9998, 0), TWO, True), ((9999, 0), TWO, False), ((0, 9998), ((0, 0), (0, 1)), True),
                                  ((0, 9999), ((0, 0), (0, 1)), False), ((0, -9998), ((0, 0), (1, -1)), True),
                                  ((0, -9999), ((0, 0), (1, -1)), False), ((-9999, 0), ((0, 0), (9999, 9999)), True),
                                  ((-9999, 1), ((0, 0), (9999, 9999)), False)):
            wanted = ((theme, (far,)),) if right else Unfit()
            check_call(self, with_theme, wanted, writing=((ONE, (far,)),), place=0, theme=theme)

    def test_as_the_words_tell(self):
        dice = random.Random(1)
        seen = {}
        writings = some_writings(150, 2)
        writings += [tuple(sorted({*writing, (TWO, writing[-1][1])})) for writing in writings if writing]
        for writing in writings:
            for place in range(len(writing)):
                other = dice.choice(writing)[0]
                for theme in (ONE, TWO, other, tuple(flat(58, 0)), writing[place][0]):
                    pairs = [pair for at, pair in enumerate(writing) if at != place]
                    pair = (theme, writing[place][1])
                    many = len(set().union(*[sums(*one) for one in pairs + [pair]]))
                    right = pair not in pairs and many <= 60
                    wanted = tuple(sorted(pairs + [pair])) if right else Unfit()
                    check_call(self, with_theme, wanted, writing=writing, place=place, theme=theme)
                    seen[right, pair in pairs] = True
                    if right:
                        self.assertIsNone(writing_error(placed(wanted), wanted))
        self.assertEqual(len(seen), 3)


class WithoutTest(unittest.TestCase):
    def test_as_the_words_tell(self):
        seen = {}
        for writing in some_writings(200, 3):
            for point in placed(writing) + ((99, 99),):
                wanted = told_without(writing, point)
                check_call(self, without, wanted, writing=writing, point=point)
                left = tuple([other for other in placed(writing) if other != point])
                self.assertIsNone(writing_error(left, wanted))
                seen[len(given_by(writing, point)), len(wanted) < len(writing)] = True
                singles = [pair for pair in writing if pair[0] == ONE]
                seen[len(singles), len(wanted) - len(writing)] = True
        for many in (1, 2, 3, 4):
            self.assertIn((many, True), seen)
            self.assertIn((many, False), seen)
        for key in ((0, 1), (0, 0), (0, -1), (1, 0), (2, 0), (2, -1)):
            self.assertIn(key, seen)

    def test_points_that_are_not_placed(self):
        for writing in some_writings(60, 4):
            for point in ((99, 99), (-9999, 9999), (9999, -9999)):
                check_call(self, without, writing, writing=writing, point=point)

    def test_the_singles_of_the_first_pair(self):
        # Two pairs of single points: what else the play gave goes to the first one, in the order that there was.
        writing = ((ONE, ((0, 0), (9, 9))), (ONE, ((5, 5),)), (TWO, ((20, 0), (30, 0))))
        check_call(self, without, ((ONE, ((0, 0), (9, 9), (21, 0))), (ONE, ((5, 5),)), (TWO, ((30, 0),))), writing=writing,
                   point=(20, 0))
        # The point is given by the first pair, too, which stays the first one, though it comes behind the other one then.
        writing = ((ONE, ((0, 0), (9, 9))), (ONE, ((5, 5),)), (TWO, ((0, 0), (30, 0))))
        check_call(self, without, ((ONE, ((1, 0), (9, 9))), (ONE, ((5, 5),)), (TWO, ((30, 0),))), writing=writing,
                   point=(0, 0))
        writing = ((ONE, ((0, 0), (9, 9))), (ONE, ((5, 5),)), (TWO, ((-1, 0), (30, 0))))
        check_call(self, without, ((ONE, ((-1, 0), (9, 9))), (ONE, ((5, 5),)), (TWO, ((30, 0),))), writing=writing,
                   point=(0, 0))
        writing = ((ONE, ((0, 0), (9, 9))), (ONE, ((5, 5),)), (((0, 0), (7, 0)), ((0, 0), (30, 0))))
        check_call(self, without, ((ONE, ((5, 5),)), (ONE, ((7, 0), (9, 9))), (((0, 0), (7, 0)), ((30, 0),))),
                   writing=writing, point=(0, 0))
        # The first pair of single points has no play any more: the second one takes what is lost.
        writing = ((ONE, ((0, 0),)), (ONE, ((5, 5),)), (((0, 0), (7, 0)), ((0, 0),)))
        check_call(self, without, ((ONE, ((5, 5), (7, 0))),), writing=writing, point=(0, 0))
        writing = ((ONE, ((0, 0),)), (((0, 0), (7, 0)), ((0, 0), (1, 1))))
        check_call(self, without, ((ONE, ((7, 0),)), (((0, 0), (7, 0)), ((1, 1),))), writing=writing, point=(0, 0))

    def test_points_that_another_play_gives_are_not_lost(self):
        writing = ((TWO, ((0, 0),)), (((0, 0), (0, 1)), ((1, 0),)))
        check_call(self, without, ((((0, 0), (0, 1)), ((1, 0),)),), writing=writing, point=(0, 0))
        check_call(self, without, ((ONE, ((0, 0), (1, 1))),), writing=writing, point=(1, 0))

    def test_pairs_that_become_alike(self):
        wide = (((0, 0), (2, 0)), ((0, 0),))
        pairs = ((TWO, ((0, 0), (9, 9))), (TWO, ((1, 0), (9, 9))), wide)
        # (1, 0) is given by (0, 0) and by (1, 0): both pairs have the play (9, 9) alone left.
        check_call(self, without, ((TWO, ((9, 9),)), wide), writing=pairs, point=(1, 0))
        singles = ((ONE, ((0, 0), (9, 9))), (ONE, ((9, 9),)))
        check_call(self, without, singles[1:], writing=singles, point=(0, 0))
        check_call(self, without, ((ONE, ((0, 0),)),), writing=singles, point=(9, 9))

    def test_until_nothing_is_left(self):
        dice = random.Random(5)
        for writing in some_writings(60, 6):
            left = list(placed(writing))
            dice.shuffle(left)
            while left:
                writing = without(writing, left.pop())
                self.assertIsNone(writing_error(tuple(sorted(left)), writing))
            self.assertEqual(writing, ())

    def test_what_is_placed_otherwise_is_as_it_was(self):
        for writing in some_writings(60, 7):
            for point in placed(writing):
                changed = without(writing, point)
                gone = {(place, shift) for place, _, shift in given_by(writing, point)}
                for place, (theme, shifts) in enumerate(writing):
                    own = {shift for shift in shifts if (place, shift) not in gone}
                    self.assertTrue(not own or [1 for other, plays in changed if other == theme and own <= set(plays)])


class JoinedUpTest(unittest.TestCase):
    def test_as_the_words_tell(self):
        joined = 0
        for writing in some_writings(200, 8):
            themes = sorted({theme for theme, _ in writing})
            wanted = tuple([(theme, tuple(sorted({shift for other, shifts in writing if other == theme
                                                  for shift in shifts}))) for theme in themes])
            check_call(self, joined_up, wanted, writing=writing)
            check_call(self, joined_up, wanted, writing=wanted)
            self.assertEqual(placed(wanted), placed(writing))
            self.assertLessEqual(size(wanted), size(writing))
            self.assertIsNone(writing_error(placed(writing), wanted))
            joined += len(wanted) < len(writing)
        self.assertGreater(joined, 40)

    def test_shifts_in_common(self):
        writing = ((ONE, ((0, 0), (5, 5))), (ONE, ((5, 5),)), (TWO, ((1, 1),)), (TWO, ((1, 1), (2, 2))))
        wanted = ((ONE, ((0, 0), (5, 5))), (TWO, ((1, 1), (2, 2))))
        check_call(self, joined_up, wanted, writing=writing)
        check_call(self, joined_up, (), writing=())
        # The shifts of the later pair may be less.
        writing = ((ONE, ((1, 1), (9, 9))), (ONE, ((5, 0), (5, 5))))
        check_call(self, joined_up, ((ONE, ((1, 1), (5, 0), (5, 5), (9, 9))),), writing=writing)


class ErrorsTest(unittest.TestCase):
    def test_what_was_passed_is_unchanged(self):
        writing = ((ONE, ((0, 0),)), (TWO, ((3, 3), (4, 4))))
        for call in (lambda: with_theme(writing, 0, list(TWO)), lambda: with_theme(writing, [], TWO)):
            self.assertTrue(same_error(raised(call), Unfit()))
        self.assertTrue(same(writing, ((ONE, ((0, 0),)), (TWO, ((3, 3), (4, 4))))))


if __name__ == "__main__":
    unittest.main()
