"""Patterns within patterns: heardagain.withins, [I7] to [I9], [A2] (h)."""

import random
import unittest

from heardagain.errors import BadPattern, TooMany, Unfit
from heardagain.patterns import places_of
from heardagain.scores import score_error
from heardagain.singles import singles
from heardagain.withins import alike_patterns, at_one_note, within
from tests.helper import (NO_PATTERNS, ODD_VALUES, check_call, check_examples, some_pattern_scores, some_patterns, told_places,
                          told_singles)
from tests.test_singles import FREE, TIGHT, TWIN, UP, hard_patterns

EXAMPLES = """
    >>> from heardagain.patterns import pattern_error, places_of
    >>> up = (((0, 1, 2, (2, 4), "same"),), ())
    >>> from heardagain.singles import ring, ring_holds, singles
    >>> tight = (((0, 1, 2, (0,), "any"), (1, 1, 2, (0,), "any")), ((0, 2, 0, 1),))
    >>> twin = (((0, 0, 0, (0,), "same"),), ())
    >>> from heardagain.withins import alike_patterns, at_one_note, within
    >>> rise = (((0, 1, 1, (2,), "any"),), ())
    >>> down = (((0, -2, -1, (-4, -2), "same"),), ())
    >>> within((((0, 1, 1, (2,), "same"),), ()), rise), within(twin, up), within(tight, rise)
    (None, None, None)
    >>> apart = within(up, rise)
    >>> apart in singles(up), places_of(apart, rise)
    (True, ())
    >>> alike_patterns(up, down), alike_patterns(up, rise), alike_patterns(twin, tight)
    (True, False, True)
    >>> found = at_one_note(up, 1, rise, 0)
    >>> len(found), len(places_of(found, up)) > 0, len(places_of(found, rise)) > 0, at_one_note(up, 0, twin, 1)
    (3, True, True, None)
    >>> tall = (((0, 1, 1, (24,), "any"), (1, 1, 1, (24,), "any"), (2, 1, 1, (24,), "any"), (3, 1, 1, (24,), "any")), ())
    >>> at_one_note(tall, 4, tall, 0), len(at_one_note(tall, 2, tall, 2)) > 4
    (None, True)
    >>> at_one_note(up, 2, up, 0)
    raises Unfit()
"""

RISE = (((0, 1, 1, (2,), "any"),), ())
DOWN = (((0, -2, -1, (-4, -2), "same"),), ())
# 300 singles, and 301.
JUST = (((0, 1, 30, (1, 2, 3, 4, 5), "any"),), ())
MORE = (((0, 1, 43, (1, 2, 3, 4, 5, 6, 7), "same"),), ())
WIDE = ((FREE,) * 4, ())
HUGE = 10 ** 399


def some_pairs(many, seed):
    """Return so many pairs of patterns with at most 300 singles; the second one is often the first one, made otherwise."""
    dice = random.Random(seed)
    drawn = [pattern for pattern in some_patterns(many * 3, seed, 1, 3) + hard_patterns(many, seed)
             if len(told_singles(pattern)) <= 300]
    dice.shuffle(drawn)
    found = []
    for pattern, other in zip(drawn, drawn[1:]):
        if dice.random() < 0.6:
            other = changed(dice, pattern)
            if len(told_singles(other)) > 300:
                continue
        found.append(dice.choice(((pattern, other), (other, pattern))))
    return found[:many]


def changed(dice, pattern):
    """Return a pattern that lets a little more, or a little less, than another one."""
    rules, bounds = pattern
    place = dice.randrange(len(rules))
    of, low, high, pitches, voice = rules[place]
    way = dice.randrange(6)
    if way == 0:
        high += 1
    elif way == 1:
        low -= 1
    elif way == 2:
        pitches = tuple(sorted(set(pitches + (dice.randint(-2, 2),))))
    elif way == 3:
        voice = "any"
    elif way == 4:
        bounds = bounds[1:]
    elif len(rules) > 1:
        # The last number is left out, and all bounds of it.
        bounds = tuple([bound for bound in bounds if len(rules) not in bound[:2]])
        return rules[:-1], bounds
    return rules[:place] + ((of, low, high, pitches, voice),) + rules[place + 1:], bounds


class ExamplesTest(unittest.TestCase):
    def test_examples(self):
        self.assertEqual(check_examples(self, EXAMPLES), 6)


class WithinTest(unittest.TestCase):
    def check(self, pattern, other):
        """Check within beside all singles of one and all rows of their notes; return what it tells."""
        told = within(pattern, other)
        check_call(self, within, told, pattern=pattern, other=other)
        own = told_singles(pattern)
        without = [single for single in own if not told_places(single, other)]
        if without:
            self.assertIn(told, without)
        else:
            self.assertIsNone(told)
        return told

    def test_beside_all_singles(self):
        seen = {}
        for pattern, other in some_pairs(200, 1):
            one, two = self.check(pattern, other), self.check(other, pattern)
            seen[one is None, two is None] = True
            check_call(self, alike_patterns, one is None and two is None, pattern=pattern, other=other)
            check_call(self, alike_patterns, one is None and two is None, pattern=other, other=pattern)
            seen[len(pattern[0]) > len(other[0]), len(pattern[0]) < len(other[0]), one is None] = True
        for one in (True, False):
            for two in (True, False):
                self.assertIn((one, two), seen)
        self.assertIn((True, False, True), seen)

    def test_all_scores(self):
        held = 0
        for seed, (pattern, other) in enumerate(some_pairs(150, 2)):
            if within(pattern, other) is None:
                for score in some_pattern_scores(4, pattern, seed):
                    if places_of(score, pattern):
                        self.assertTrue(places_of(score, other))
                        held += 1
        self.assertGreater(held, 60)

    def test_chains(self):
        # If one is within another one, and this within a third one, so is the first one.
        drawn = [pattern for pattern in some_patterns(25, 3, 1, 2) + hard_patterns(15, 3)
                 if len(told_singles(pattern)) <= 300]
        held = [[within(one, two) is None for two in drawn] for one in drawn]
        for one in range(len(drawn)):
            self.assertTrue(held[one][one])
            for two in range(len(drawn)):
                for three in range(len(drawn)):
                    self.assertTrue(held[one][three] or not (held[one][two] and held[two][three]))

    def test_more_numbers(self):
        three = (((0, 1, 1, (2,), "same"), (1, 1, 1, (2,), "same")), ())
        check_call(self, within, None, pattern=three, other=RISE)
        check_call(self, within, None, pattern=three, other=UP)
        check_call(self, within, ((0, 0, 0, 1), (1, 2, 0, 1)), pattern=(((0, 1, 1, (2,), "same"),), ()), other=three)
        check_call(self, alike_patterns, False, pattern=three, other=RISE)

    def test_no_single(self):
        for none in (TWIN, TIGHT):
            for other in (UP, RISE, TWIN, TIGHT, MORE, WIDE):
                check_call(self, within, None, pattern=none, other=other)
            for pattern in (UP, RISE, DOWN, JUST):
                check_call(self, within, singles(pattern)[0], pattern=pattern, other=none)
                check_call(self, alike_patterns, False, pattern=pattern, other=none)
                check_call(self, alike_patterns, False, pattern=none, other=pattern)

    def test_told_otherwise(self):
        # The later note first, of another number, with bounds in the place of rules.
        one = (((0, 1, 2, (2,), "same"), (1, 1, 2, (3,), "any")), ())
        for two in ((((0, -2, -1, (-2,), "same"), (0, 1, 2, (3,), "any")), ()),
                    (((0, -2, -1, (-3,), "any"), (1, -2, -1, (-2,), "same")), ()),
                    (((0, -48, 48, (2,), "same"), (0, -48, 48, (5,), "any")), ((0, 1, 1, 2), (1, 2, 1, 2))),
                    (((0, 2, 4, (5,), "any"), (0, 1, 2, (2,), "same")), ((2, 1, 1, 2),))):
            check_call(self, alike_patterns, True, pattern=one, other=two)
            check_call(self, alike_patterns, True, pattern=two, other=one)
            check_call(self, within, None, pattern=one, other=two)
            check_call(self, within, None, pattern=two, other=one)
        check_call(self, alike_patterns, True, pattern=UP, other=DOWN)
        check_call(self, alike_patterns, False, pattern=UP, other=RISE)
        # Together two kinds of voices are any.
        both = (((0, 1, 2, (2, 4), "any"),), ())
        check_call(self, within, None, pattern=UP, other=both)
        self.assertNotIn(within(both, UP), singles(UP))

    def test_300_and_more(self):
        check_call(self, within, None, pattern=JUST, other=JUST)
        check_call(self, alike_patterns, True, pattern=JUST, other=JUST)
        for more in (MORE, WIDE):
            for other in (UP, TWIN, JUST, MORE, WIDE):
                check_call(self, within, TooMany(300), pattern=more, other=other)
                check_call(self, alike_patterns, TooMany(300), pattern=more, other=other)
                check_call(self, alike_patterns, TooMany(300), pattern=other, other=more)
        # The singles of the second one are not asked for.
        check_call(self, within, None, pattern=(((0, 1, 1, (3,), "same"),), ()), other=MORE)
        check_call(self, within, ((0, 0, 0, 1), (1, 8, 0, 1)), pattern=(((0, 1, 1, (8,), "same"),), ()), other=MORE)

    def test_bad_patterns(self):
        for wrong, error in NO_PATTERNS:
            for right in (UP, TWIN, WIDE):
                for function in (within, alike_patterns):
                    check_call(self, function, BadPattern(error), pattern=wrong, other=right)
                    check_call(self, function, BadPattern(error), pattern=right, other=wrong)
            for further, other_error in NO_PATTERNS:
                for function in (within, alike_patterns):
                    check_call(self, function, BadPattern(error), pattern=wrong, other=further)
                    check_call(self, function, BadPattern(other_error), pattern=further, other=wrong)


class AtOneNoteTest(unittest.TestCase):
    def check(self, pattern, one, other, two):
        """Check that what at_one_note tells is one of the scores that will do; return whether it tells one."""
        found = at_one_note(pattern, one, other, two)
        check_call(self, at_one_note, found, pattern=pattern, one=one, other=other, two=two)
        if found is None:
            self.assertFalse(could_be(pattern, one, other, two))
            return False
        self.assertIsNone(score_error(found))
        own = [(place, row) for place in told_places(found, pattern) for row in told_places(found, other)
               if place[one] == row[two] and set(place) | set(row) == set(found)]
        self.assertTrue(own)
        return True

    def test_all_numbers(self):
        seen = {True: 0, False: 0}
        for pattern, other in some_pairs(36, 4):
            for one in range(len(pattern[0]) + 1):
                for two in range(len(other[0]) + 1):
                    seen[self.check(pattern, one, other, two)] += 1
        self.assertGreater(seen[True], 60)
        self.assertGreater(seen[False], 20)

    def test_four_rules(self):
        pattern = (((0, 0, 1, (1, 2), "other"), (1, 0, 0, (0,), "other"), (0, 1, 1, (3,), "other"), (3, 0, 0, (0,), "other")),
                   ())
        for one in range(5):
            for two in (0, 1, 3):
                self.assertTrue(self.check(pattern, one, pattern, two))
                self.assertTrue(self.check(UP, two % 2, pattern, one))

    def test_pitches_beyond_127(self):
        def climb(*steps):
            return (tuple([(place, 1, 1, (step,), "same") for place, step in enumerate(steps)]), ())
        tall, back = climb(24, 24, 24, 24), climb(-24, -24, -24, -24)
        for one in range(5):
            for two in range(5):
                # Both climb 96 in all: from the note they share 24 * one down, 24 * two down, and up the rest.
                wanted = 24 * (max(one, two) + max(4 - one, 4 - two)) <= 127
                self.assertEqual(self.check(tall, one, tall, two), wanted)
                self.assertEqual(self.check(tall, one, back, 4 - two), wanted)
                self.assertEqual(self.check(back, 4 - one, back, 4 - two), wanted)
        for last, wanted in ((7, True), (6, True), (8, False), (24, False)):
            self.assertEqual(self.check(tall, 4, climb(24, last), 0), wanted)
            self.assertEqual(self.check(climb(24, last), 2, tall, 0), wanted)
        # Of two pitches that a rule lets the one will do.
        for steps in (((20, 24), (8,)), ((8,), (20, 24)), ((-2, 24), (-2, 8), (20,))):
            some = (tuple([(place, 1, 1, step, "same") for place, step in enumerate(steps)]), ())
            self.assertTrue(self.check(tall, 4, some, 0))
            self.assertTrue(self.check(some, 0, tall, 4))
        either = (((0, 1, 1, (7, 24), "any"), (1, 1, 1, (-24, 24), "any")), ())
        self.assertTrue(self.check(tall, 4, either, 0))
        self.assertTrue(self.check(tall, 0, (((0, 1, 1, (-24, -7), "any"), (1, 1, 1, (-24, 24), "any")), ()), 0))
        self.assertFalse(self.check(tall, 0, (((0, 1, 1, (-24,), "any"), (1, 1, 1, (-24, -8), "any")), ()), 0))

    def test_the_widest_one_that_will_do_is_not_the_lowest_one(self):
        # What lies least low below the note may lie too high above it.
        pattern = (((0, 0, 0, (-24, 24), "same"), (1, 0, 0, (-24, 24), "same"), (2, 0, 0, (-24, 24), "same"),
                    (3, 0, 0, (-24, 24), "same")), ((0, 1, 0, 0),))
        for one in range(5):
            for two in range(5):
                self.check(pattern, one, pattern, two)

    def test_voices(self):
        five = (((0, 0, 0, (0,), "other"), (0, 0, 0, (0,), "other"), (0, 0, 0, (0,), "other"), (0, 0, 0, (0,), "other")), ())
        later = (((0, 1, 1, (0,), "other"), (1, 0, 0, (0,), "other"), (1, 0, 0, (0,), "other"), (1, 0, 0, (0,), "other")), ())
        for one in (0, 1, 4):
            for two in (0, 3):
                self.assertTrue(self.check(five, one, later, two))
                self.assertTrue(self.check(later, one, later, two))
                self.assertTrue(self.check(five, one, five, two))

    def test_without_a_single(self):
        for none in (TWIN, TIGHT):
            for other in (UP, RISE, TWIN, JUST):
                for one in range(2):
                    for two in range(2):
                        check_call(self, at_one_note, None, pattern=none, one=one, other=other, two=two)
                        check_call(self, at_one_note, None, pattern=other, one=two, other=none, two=one)

    def test_errors(self):
        numbers = ODD_VALUES + (2, 3, 5, -1, HUGE, True, False, None, "0", (0,), [0], {0: 0})
        for value in numbers:
            if type(value) is not int or not 0 <= value <= 1:
                for pattern in (UP, MORE, WIDE, TWIN):
                    # WIDE has the numbers 0 to 4.
                    wrong = 5 if pattern == WIDE and type(value) is int and 0 <= value <= 4 else value
                    for other in (UP, MORE, TWIN):
                        check_call(self, at_one_note, Unfit(), pattern=pattern, one=wrong, other=other, two=0)
                        check_call(self, at_one_note, Unfit(), pattern=other, one=0, other=pattern, two=wrong)
                        check_call(self, at_one_note, Unfit(), pattern=pattern, one=wrong, other=other, two=value)
                for bad, error in NO_PATTERNS:
                    check_call(self, at_one_note, BadPattern(error), pattern=bad, one=value, other=UP, two=value)
                    check_call(self, at_one_note, BadPattern(error), pattern=UP, one=value, other=bad, two=value)
        for bad, error in NO_PATTERNS:
            for right in (UP, MORE, WIDE, TWIN):
                check_call(self, at_one_note, BadPattern(error), pattern=bad, one=0, other=right, two=0)
                check_call(self, at_one_note, BadPattern(error), pattern=right, one=0, other=bad, two=0)
            for further, _ in NO_PATTERNS:
                check_call(self, at_one_note, BadPattern(error), pattern=bad, one=0, other=further, two=0)
        for more in (MORE, WIDE):
            for other in (UP, JUST, TWIN, TIGHT, MORE, WIDE):
                check_call(self, at_one_note, TooMany(300), pattern=more, one=1, other=other, two=1)
                check_call(self, at_one_note, TooMany(300), pattern=other, one=1, other=more, two=1)
        self.assertTrue(self.check(JUST, 1, JUST, 0))


def could_be(pattern, one, other, two):
    """Return whether notes of both patterns that share a note could have pitches that lie near enough, by all singles."""
    spans = []
    for own, number in ((pattern, one), (other, two)):
        spans.append({(min(pitches), max(pitches)) for single in told_singles(own) for place in told_places(single, own)
                      for pitches in [[note[1] - place[number][1] for note in place]]})
    return any(max(high, top) - min(low, deep) <= 127 for low, high in spans[0] for deep, top in spans[1])


if __name__ == "__main__":
    unittest.main()
