"""Singles and rings: heardagain.singles, [I4] to [I6], [A2] (h)."""

import random
import unittest

from heardagain.errors import BadPattern, TooMany
from heardagain.patterns import places_of
from heardagain.scores import score_error
from heardagain.singles import ring, ring_holds, singles
from tests.helper import (NO_PATTERNS, ODD_VALUES, check_call, check_examples, plainly, raised, same, some_pattern_scores,
                          some_patterns, told_onsets, told_places, told_singles)

EXAMPLES = """
    >>> from heardagain.patterns import pattern_error, places_of
    >>> up = (((0, 1, 2, (2, 4), "same"),), ())
    >>> from heardagain.singles import ring, ring_holds, singles
    >>> singles(up)
    (((0, 0, 0, 1), (1, 2, 0, 1)), ((0, 0, 0, 1), (1, 4, 0, 1)), ((0, 0, 0, 1), (2, 2, 0, 1)), ((0, 0, 0, 1), (2, 4, 0, 1)))
    >>> chord = (((0, 0, 0, (0, 4), "any"),), ())
    >>> singles(chord)
    (((0, 0, 0, 1), (0, 0, 1, 1)), ((0, 0, 0, 1), (0, 4, 0, 1)), ((0, 0, 0, 1), (0, 4, 1, 1)))
    >>> singles((((0, 0, 0, (0,), "other"), (1, 1, 1, (0,), "same")), ()))
    (((0, 0, 0, 1), (0, 0, 1, 1), (1, 0, 0, 1)),)
    >>> singles((((0, 0, 48, (0, 1, 2, 3, 4, 5, 6, 7), "any"),), ()))
    raises TooMany(300)
    >>> tight = (((0, 1, 2, (0,), "any"), (1, 1, 2, (0,), "any")), ((0, 2, 0, 1),))
    >>> loop = ((0, 2, 1), (2, 1, -1), (1, 0, -1))
    >>> ring_holds(tight, ring(tight)), ring_holds(tight, loop), ring_holds(tight, loop[1:] + loop[:1]), ring_holds(tight, loop[:2])
    (True, True, True, False)
    >>> twin = (((0, 0, 0, (0,), "same"),), ())
    >>> ring(up), ring(twin), ring_holds(twin, ("none",)), ring_holds(tight, ("none",)), ring_holds(up, None)
    (None, ('none',), True, False, False)
    >>> ring_holds(tight, ((0, 2, 0), (2, 1, -1), (1, 0, -1)))
    False
"""

UP = (((0, 1, 2, (2, 4), "same"),), ())
TIGHT = (((0, 1, 2, (0,), "any"), (1, 1, 2, (0,), "any")), ((0, 2, 0, 1),))
LOOP = ((0, 2, 1), (2, 1, -1), (1, 0, -1))
TWIN = (((0, 0, 0, (0,), "same"),), ())
NEITHER = ("none",)
FREE = (0, -48, 48, tuple(range(-4, 4)), "any")
HUGE = 10 ** 399


def told_ties(pattern):
    """Return all ties of a pattern."""
    rules, bounds = pattern
    found = []
    for place, rule in enumerate(rules):
        found += [(rule[0], place + 1, rule[2]), (place + 1, rule[0], -rule[1])]
    for one, two, low, high in bounds:
        found += [(one, two, high), (two, one, -low)]
    return found


def told_is_ring(pattern, value):
    """Return whether value is a ring of a pattern, as [I5] tells it."""
    if type(value) is not tuple or len(value) == 0:
        return False
    if not all(any(same(tie, own) for own in told_ties(pattern)) for tie in value):
        return False
    for at, tie in enumerate(value):
        if tie[1] != value[(at + 1) % len(value)][0]:
            return False
    return sum(tie[2] for tie in value) < 0


def hard_patterns(many, seed):
    """Return so many patterns, most of which have no place: ties that can't all be kept, and notes that are not unlike."""
    dice = random.Random(seed)
    found = []
    while len(found) < many:
        rules = []
        for place in range(dice.randint(1, 3)):
            low = dice.choice((0, 0, 0, 1, -1, 2))
            pitches = dice.choice(((0,), (0,), (0, 1), (1,), (-1, 0)))
            rules.append((dice.randint(0, place), low, low + dice.choice((0, 0, 1)), pitches,
                          dice.choice(("same", "same", "other", "any"))))
        bounds = []
        for _ in range(dice.choice((0, 0, 1, 2, 3))):
            one, two = dice.sample(range(len(rules) + 1), 2)
            low = dice.randint(-3, 3)
            bounds.append((one, two, low, low + dice.choice((0, 0, 1, 2))))
        found.append((tuple(rules), tuple(bounds)))
    return found


class ExamplesTest(unittest.TestCase):
    def test_examples(self):
        self.assertEqual(check_examples(self, EXAMPLES), 7)


class SinglesTest(unittest.TestCase):
    def check(self, pattern):
        """Check the singles beside a plain going through; return how many there are."""
        told = told_singles(pattern)
        check_call(self, singles, told if len(told) <= 300 else TooMany(300), pattern=pattern)
        return len(told)

    def test_beside_all_rows(self):
        seen = {}
        for pattern in some_patterns(150, 1, 1, 3) + some_patterns(60, 12, 2, 3) + hard_patterns(150, 2):
            many = self.check(pattern)
            seen[len(pattern[0]), many == 0, many > 300] = True
        for rules in (1, 2, 3):
            for none in (False, True):
                self.assertIn((rules, none, False), seen)
        self.assertIn((3, False, True), seen)

    def test_four_rules(self):
        for voices in (("same",) * 4, ("other",) * 4, ("any",) * 4, ("same", "other", "any", "other"), ("any", "same", "any", "other")):
            for ofs in ((0, 0, 0, 0), (0, 1, 2, 3), (0, 0, 1, 1)):
                for windows in (((0, 0),) * 4, ((0, 1), (0, 0), (-1, 0), (0, 0)), ((1, 1), (0, 0), (0, 1), (-1, -1))):
                    rules = [(of,) + window + ((0,), voice) for of, window, voice in zip(ofs, windows, voices)]
                    self.check((tuple(rules), ()))
                    self.check((tuple(rules), ((1, 4, -1, 1), (3, 2, 0, 1))))

    def test_told_plainly(self):
        for pattern in some_patterns(60, 3, 2, 3):
            found = raised(lambda: singles(pattern))
            if isinstance(found, tuple):
                for single in found:
                    self.assertIsNone(score_error(single))
                    self.assertTrue(same(plainly(single), single))
                    self.assertEqual(len(single), len(pattern[0]) + 1)
                    self.assertTrue(told_places(single, pattern))

    def test_voices_are_renamed_so_that_the_score_is_least(self):
        # The voices of a chord are told apart by what comes behind it.
        pattern = (((0, 0, 0, (0,), "other"), (0, 0, 0, (0,), "other"), (1, 2, 2, (0,), "same"), (2, 1, 1, (0,), "same")),
                   ())
        check_call(self, singles, (((0, 0, 0, 1), (0, 0, 1, 1), (0, 0, 2, 1), (1, 0, 0, 1), (2, 0, 1, 1)),), pattern=pattern)
        self.assertEqual(self.check(pattern), 1)
        check_call(self, singles, (((0, 0, 0, 1), (0, 0, 1, 1), (1, 0, 0, 1)),),
                   pattern=(((0, 0, 0, (0,), "other"), (0, 1, 1, (0,), "same")), ()))
        check_call(self, singles, (((0, 0, 0, 1), (0, 4, 1, 1), (1, 0, 1, 1), (1, 4, 0, 1)),),
                   pattern=(((0, 0, 0, (4,), "other"), (1, 1, 1, (-4,), "same"), (0, 1, 1, (4,), "same")), ()))
        # The voice of the first note is 0, even where another voice comes more often.
        check_call(self, singles, (((0, 0, 0, 1), (1, 0, 1, 1), (2, 0, 1, 1)),),
                   pattern=(((0, 1, 1, (0,), "other"), (1, 1, 1, (0,), "same")), ()))

    def test_300_and_more(self):
        def with_rule(low, high, pitches, voice):
            return (((0, low, high, pitches, voice),), ())
        self.assertEqual(self.check(with_rule(-1, 48, (1, 2, 3, 4, 5, 6), "same")), 300)
        self.assertEqual(self.check(with_rule(1, 43, (1, 2, 3, 4, 5, 6, 7), "same")), 301)
        self.assertEqual(self.check(with_rule(1, 30, (1, 2, 3, 4, 5), "any")), 300)
        self.assertEqual(self.check(with_rule(1, 30, (-2, -1, 0, 1, 2), "any")), 300)
        self.assertEqual(self.check(with_rule(0, 29, (0, 1, 2, 3, 4), "any")), 299)
        self.assertEqual(self.check(with_rule(0, 30, (1, 2, 3, 4, 5), "any")), 310)
        self.assertEqual(self.check(with_rule(-48, 48, (-1, 0, 1), "same")), 145)
        for many in (1, 2, 3, 4):
            check_call(self, singles, TooMany(300), pattern=((FREE,) * many, ()))

    def test_many_rows_for_few_singles(self):
        # Five notes one behind another, in any order: 120 rows for each single.
        for wide, many in ((2, 1), (3, 11)):
            pattern = (((0, -wide, wide, (0,), "same"),) * 4, ())
            self.assertEqual(self.check(pattern), many)

    def test_without_a_single(self):
        for pattern in (TWIN, TIGHT, (((0, 1, 1, (2,), "same"), (1, -1, -1, (-2,), "same")), ()),
                        ((FREE, FREE, FREE, (3, 0, 0, (0,), "same")), ()), ((FREE, FREE, FREE, (0, 0, 0, (0,), "same")), ()),
                        ((FREE,) * 4, ((0, 1, 1, 1), (1, 0, 0, 0))), (((0, 0, 3, (0,), "same"),) * 4, ()),
                        ((FREE,) * 4, ((1, 2, 9, 9), (2, 3, 9, 9), (3, 4, 9, 9), (1, 4, 26, 26)))):
            check_call(self, singles, (), pattern=pattern)
            self.assertIsNotNone(ring(pattern))

    def test_the_widest_singles(self):
        far = (48, 48, (24,), "same")
        pattern = (((0,) + far, (1,) + far, (2,) + far, (3,) + far), ())
        check_call(self, singles, (tuple([(48 * at, 24 * at, 0, 1) for at in range(5)]),), pattern=pattern)
        back = (-48, -48, (-24,), "other")
        wanted = singles((((0,) + back, (1,) + back, (2,) + back, (3,) + back), ()))
        self.assertEqual([tuple([note[:2] for note in single]) for single in wanted],
                         [tuple([(48 * at, 24 * at) for at in range(5)])] * 15)

    def test_bad_patterns(self):
        for pattern, error in NO_PATTERNS:
            check_call(self, singles, BadPattern(error), pattern=pattern)
            check_call(self, ring, BadPattern(error), pattern=pattern)


class HoldsTest(unittest.TestCase):
    """What [I9] says of places and singles."""

    def test_notes_of_a_place_are_a_single(self):
        told = 0
        for seed, pattern in enumerate(some_patterns(150, 4, 1, 3)):
            own = raised(lambda: singles(pattern))
            if isinstance(own, tuple):
                for score in some_pattern_scores(3, pattern, seed):
                    for place in places_of(score, pattern):
                        self.assertIn(plainly(place), own)
                        told += 1
        self.assertGreater(told, 100)

    def test_a_ring_exactly_if_no_onsets_keep_all(self):
        for pattern in hard_patterns(200, 5):
            told = ring(pattern)
            self.assertEqual(told not in (None, NEITHER), not told_onsets(pattern))


class RingTest(unittest.TestCase):
    def test_what_is_told(self):
        seen = {None: 0, NEITHER: 0, "ring": 0}
        lengths = {}
        for pattern in hard_patterns(300, 6) + some_patterns(60, 7, 1, 3):
            found = ring(pattern)
            check_call(self, ring, found, pattern=pattern)
            if told_singles(pattern):
                self.assertIsNone(found)
            elif told_onsets(pattern):
                self.assertTrue(same(found, NEITHER))
            else:
                self.assertTrue(told_is_ring(pattern, found), (pattern, found))
                lengths[len(found)] = True
            seen[found if found in (None, NEITHER) else "ring"] += 1
        self.assertGreater(min(seen.values()), 20)
        self.assertIn(2, lengths)
        self.assertIn(3, lengths)

    def test_rings_round_all_numbers(self):
        for many in (1, 2, 3, 4):
            rules = tuple([(place, 1, 1, (0,), "same") for place in range(many)])
            for far in (many - 1, many + 1, -48, 48):
                pattern = (rules, ((0, many, far, far),))
                self.assertTrue(told_is_ring(pattern, ring(pattern)))
                self.assertTrue(ring_holds(pattern, ring(pattern)))
            self.assertIsNone(ring((rules, ((0, many, many, many),))))
            self.assertIsNone(ring((rules, ((many, 0, -many, -many),))))

    def test_rings_among_any_numbers(self):
        chain = tuple([(place, 1, 1, (0,), "same") for place in range(4)])
        star = ((0, 1, 1, (0,), "any"), (0, 2, 2, (0,), "any"), (0, 3, 3, (0,), "any"), (0, 4, 4, (0,), "any"))
        for rules in (chain, star):
            for one in range(5):
                for two in range(5):
                    for more in (-1, 1, 9):
                        if one != two:
                            pattern = (rules, ((one, two, two - one + more, two - one + more),))
                            self.assertTrue(told_is_ring(pattern, ring(pattern)))
        for one, two, three in ((0, 1, 2), (1, 2, 3), (2, 3, 4), (4, 2, 1), (1, 3, 4), (4, 3, 0)):
            bounds = ((one, two, 1, 3), (two, three, 1, 3), (three, one, -1, 3))
            pattern = (((0, -48, 48, (0,), "any"),) * 4, bounds)
            self.assertTrue(told_is_ring(pattern, ring(pattern)))
            self.assertIsNone(ring((pattern[0], bounds[:2] + ((three, one, -2, 3),))))
            around = (((0, -48, 48, (0,), "any"),) * 4, bounds[:1] + ((two, three, 1, 1), (three, one, 0, 0)))
            self.assertTrue(told_is_ring(around, ring(around)))

    def test_sums_of_just_0_and_one_less(self):
        rules = ((0, 0, 5, (1,), "same"), (0, 0, 5, (2,), "same"))
        for low, high, wanted in ((5, 9, True), (6, 9, False), (-5, -5, True), (-9, -6, False), (-9, -5, True)):
            pattern = (rules, ((1, 2, low, high),))
            self.assertEqual(ring(pattern) is None, wanted, (low, high))
            self.assertEqual(told_onsets(pattern) != [], wanted)
            if not wanted:
                self.assertTrue(told_is_ring(pattern, ring(pattern)))

    def test_many_singles_raise_nothing(self):
        for many in (1, 2, 3, 4):
            check_call(self, ring, None, pattern=((FREE,) * many, ()))
            check_call(self, ring, None, pattern=((FREE,) * many, ((0, 1, 0, 0), (1, 0, 0, 0))))
        check_call(self, ring, NEITHER, pattern=((FREE, FREE, FREE, (3, 0, 0, (0,), "same")), ()))
        # Five notes of one pitch and one voice need five onsets.
        for wide, wanted in ((2, NEITHER), (3, NEITHER), (4, None), (48, None)):
            check_call(self, ring, wanted, pattern=(((0, 0, wide, (0,), "same"),) * 4, ()))


class RingHoldsTest(unittest.TestCase):
    def check(self, wanted, pattern, value):
        check_call(self, ring_holds, wanted, pattern=pattern, value=value)

    def test_what_ring_tells(self):
        for pattern in hard_patterns(250, 8):
            found = ring(pattern)
            self.check(found is not None, pattern, found)
            self.check(found == NEITHER, pattern, NEITHER)

    def test_rings_begun_at_another_tie_changed_and_cut(self):
        dice = random.Random(9)
        checked = {True: 0, False: 0}
        for pattern in hard_patterns(250, 10):
            own = told_ties(pattern)
            found = ring(pattern)
            values = [tuple([dice.choice(own) for _ in range(dice.randint(1, 4))]) for _ in range(4)]
            if found not in (None, NEITHER):
                values += [found[at:] + found[:at] for at in range(len(found))] + [found * 2, found * 3]
                values += [found[:at] + found[at + 1:] for at in range(len(found))] + [found[::-1], found[:1]]
                for at, (one, two, most) in enumerate(found):
                    for tie in ((one, two, most + 1), (one, two, most - 1), (two, one, most), (one, two, -most), (one, one, most),
                                (one, two), (one, two, most, 0), [one, two, most], (one, two, None), one, None):
                        values.append(found[:at] + (tie,) + found[at + 1:])
                    for tie in own:
                        values.append(found[:at] + (tie,) + found[at:])
            for value in values:
                wanted = told_is_ring(pattern, value)
                self.check(wanted, pattern, value)
                checked[wanted] += 1
        self.assertGreater(checked[True], 300)
        self.assertGreater(checked[False], 1000)

    def test_ties_of_rules_and_of_bounds(self):
        # The tie from 0 to 1 can be that of the rule (2) and those of both bounds (5, 1).
        pattern = (((0, -9, 2, (0,), "any"),), ((0, 1, -9, 5), (1, 0, -1, 9), (1, 0, -9, -3)))
        for most in range(-10, 11):
            for back in range(-10, 11):
                wanted = most in (2, 5, 1, 9) and back in (9, -3) and most + back < 0
                self.check(told_is_ring(pattern, ((0, 1, most), (1, 0, back))), pattern, ((0, 1, most), (1, 0, back)))
                if wanted:
                    self.check(True, pattern, ((0, 1, most), (1, 0, back)))
        self.check(True, pattern, ((0, 1, 1), (1, 0, -3)))
        self.check(True, pattern, ((1, 0, -3), (0, 1, 2)))
        self.check(False, pattern, ((0, 1, 5), (1, 0, -3)))
        # Round twice, once dearer: the sum counts.
        self.check(True, pattern, ((0, 1, 5), (1, 0, -3), (0, 1, 2), (1, 0, -3), (0, 1, 1), (1, 0, -3)))
        self.check(False, pattern, ((0, 1, 5), (1, 0, -3), (0, 1, 1), (1, 0, -3)))

    def test_sums_of_just_0_and_one_less(self):
        pattern = (((0, 3, 9, (0,), "same"),), ((0, 1, -5, 3), (0, 1, -5, 2)))
        self.check(False, pattern, ((0, 1, 3), (1, 0, -3)))
        self.check(True, pattern, ((0, 1, 2), (1, 0, -3)))
        self.check(True, pattern, ((0, 1, 3), (1, 0, -3), (0, 1, 2), (1, 0, -3)))

    def test_loops_of_one_tie(self):
        for value in (((0, 0, -1),), ((1, 1, -1),), ((0, 2, -1),), ((0, 2, 1),), ((2, 1, -1),)):
            self.check(False, TIGHT, value)

    def test_long_rings(self):
        self.check(True, TIGHT, LOOP * 400)
        self.check(False, TIGHT, LOOP * 400 + LOOP[:1])
        around = ((0, 1, 2), (1, 0, -1))
        self.check(True, TIGHT, around + LOOP * 2)
        self.check(False, TIGHT, around + LOOP)
        self.check(False, TIGHT, around * 300 + LOOP)

    def test_none(self):
        for pattern in (UP, TIGHT, (((0, 0, 48, (0,), "any"),), ())):
            self.check(False, pattern, NEITHER)
        self.check(True, TWIN, NEITHER)
        for value in (["none"], "none", ("none", "none"), ("None",), (), ("none", 0), (("none",),), None, ("none ",)):
            for pattern in (TWIN, UP, TIGHT):
                self.check(False, pattern, value)

    def test_values_of_all_kinds(self):
        for value in ODD_VALUES:
            for pattern in (TWIN, UP, TIGHT):
                self.check(False, pattern, value)
            for at in range(3):
                self.check(False, TIGHT, LOOP[:at] + (value,) + LOOP[at + 1:])
                for part in range(3):
                    tie = LOOP[at][:part] + (value,) + LOOP[at][part + 1:]
                    value_of = LOOP[:at] + (tie,) + LOOP[at + 1:]
                    self.check(told_is_ring(TIGHT, value_of), TIGHT, value_of)

    def test_lists_and_true(self):
        self.check(True, TIGHT, LOOP)
        for value in (list(LOOP), tuple([list(tie) for tie in LOOP]), [list(tie) for tie in LOOP], LOOP[:2] + ([1, 0, -1],),
                      ((0, 2, True),) + LOOP[1:], ((False, 2, 1),) + LOOP[1:], LOOP[:2] + ((True, 0, -1),),
                      LOOP[:2] + ((1, False, -1),), LOOP[:1] + ((2, True, -1),) + LOOP[2:], {0: LOOP}, str(LOOP)):
            self.check(False, TIGHT, value)

    def test_no_patterns(self):
        for pattern, _ in NO_PATTERNS:
            for value in (NEITHER, LOOP, None, (), [], ring(TIGHT)):
                self.check(False, pattern, value)
        for pattern in ODD_VALUES:
            self.check(False, pattern, NEITHER)
            self.check(False, pattern, pattern)


if __name__ == "__main__":
    unittest.main()
