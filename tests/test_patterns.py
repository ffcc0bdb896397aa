"""Patterns and their places: heardagain.patterns, [I1] to [I3]."""

import random
import unittest
from itertools import permutations

from heardagain.errors import BadPattern, TooMany
from heardagain.patterns import pattern_error, places_of
from tests.helper import (ODD_VALUES, check_call, check_examples, some_pattern_scores, some_patterns, told_keeps,
                          told_places)

EXAMPLES = """
    >>> from heardagain.patterns import pattern_error, places_of
    >>> up = (((0, 1, 2, (2, 4), "same"),), ())
    >>> row = ((0, 60, 0, 1), (1, 62, 0, 1), (1, 64, 1, 1), (2, 64, 0, 1), (3, 66, 0, 1))
    >>> [(one[0], two[0]) for one, two in places_of(row, up)]
    [(0, 1), (0, 2), (1, 2), (1, 3), (2, 3)]
    >>> places_of(row, (((0, 1, 2, (2, 4), "other"),), ()))
    (((0, 60, 0, 1), (1, 64, 1, 1)), ((1, 64, 1, 1), (3, 66, 0, 1)))
    >>> [pattern_error(value) for value in (up, up[:1], ((), ()), (((1, 1, 2, (2,), "same"),), ()), (up[0], ((0, 0, 1, 1),)))]
    [None, 'form', 'rules', ('rule', 0), ('bound', 0)]
    >>> places_of(row, (up[0], [(0, 1, 1, 1)]))
    raises BadPattern('bounds')
"""

RULE = (0, 1, 2, (2, 4), "same")
UP = ((RULE,), ())
ROW = ((0, 60, 0, 1), (1, 62, 0, 1), (1, 64, 1, 1), (2, 64, 0, 1), (3, 66, 0, 1))
HUGE = 10 ** 399

RULES_AT_0 = (
    RULE, (0, 2, 2, (0,), "any"), (0, -48, 48, (-24, 24), "other"), (0, -48, -48, (-24,), "same"), (0, 48, 48, (24,), "any"),
    (0, 0, 0, (-3, -2, -1, 0, 1, 2, 3, 4), "any"),
)
NO_RULES = (
    (-1, 1, 2, (2,), "same"), (True, 1, 2, (2,), "same"), (False, 1, 2, (2,), "same"),
    (None, 1, 2, (2,), "same"), ("0", 1, 2, (2,), "same"), (0, 2, 1, (2,), "same"), (0, True, 2, (2,), "same"),
    (0, 1, True, (2,), "same"), (0, False, 0, (2,), "same"), (0, 0, False, (2,), "same"), (0, -49, 2, (2,), "same"),
    (0, 1, 49, (2,), "same"), (0, -49, -49, (2,), "same"), (0, 49, 49, (2,), "same"), (0, None, 2, (2,), "same"),
    (0, 1, None, (2,), "same"), (0, "1", 2, (2,), "same"), (0, -HUGE, HUGE, (2,), "same"), (0, 1, 2, (), "same"),
    (0, 1, 2, tuple(range(9)), "same"), (0, 1, 2, tuple(range(50)), "same"), (0, 1, 2, (4, 2), "same"),
    (0, 1, 2, (2, 2), "same"), (0, 1, 2, (-25,), "same"), (0, 1, 2, (25,), "same"), (0, 1, 2, (-24, 25), "same"),
    (0, 1, 2, (True,), "same"), (0, 1, 2, (False, 1), "same"), (0, 1, 2, (0, True), "same"), (0, 1, 2, [2], "same"),
    (0, 1, 2, (2, None), "same"), (0, 1, 2, ("2",), "same"), (0, 1, 2, ((2,),), "same"), (0, 1, 2, 2, "same"),
    (0, 1, 2, {2: 2}, "same"), (0, 1, 2, "2", "same"), (0, 1, 2, None, "same"), (0, 1, 2, (-HUGE, HUGE), "same"),
    (0, 1, 2, (2,), "Same"), (0, 1, 2, (2,), "same "), (0, 1, 2, (2,), ""), (0, 1, 2, (2,), "s"), (0, 1, 2, (2,), None),
    (0, 1, 2, (2,), True), (0, 1, 2, (2,), 0), (0, 1, 2, (2,), ("same",)), (0, 1, 2, (2,), ["same"]),
    (0, 1, 2, (2,), {"same": 1}), (0, 1, 2, (2,), "sameotherany"), (0, 1, 2, (2,)), (0, 1, 2, (2,), "same", "same"), (),
    [0, 1, 2, (2,), "same"], (0, 1, 2, 2, 4), None, "01234", 0, (RULE,),
)
BOUNDS_OF_2 = ((0, 1, 0, 0), (1, 0, 0, 0), (0, 1, -48, 48), (1, 0, 48, 48), (0, 1, -48, -48), (0, 1, 3, 5))
NO_BOUNDS_OF_2 = (
    (0, 0, 0, 0), (1, 1, 0, 0), (0, 2, 0, 0), (2, 0, 0, 0), (-1, 0, 0, 0), (0, -1, 0, 0), (0, True, 0, 0), (False, 1, 0, 0),
    (True, 0, 0, 0), (1, False, 0, 0), (0, 1, 1, 0), (0, 1, -49, 0), (0, 1, 0, 49), (0, 1, 49, 49), (0, 1, -49, -49),
    (0, 1, False, 0), (0, 1, 0, True), (0, 1, True, 1), (0, 1, 0, False), (None, 1, 0, 0), (0, None, 0, 0), (0, 1, None, 0),
    (0, 1, 0, None), ("0", 1, 0, 0), (0, "1", 0, 0), (0, 1, "0", 0), (0, 1, -HUGE, HUGE), (0, 1, 0), (0, 1, 0, 0, 0), (),
    [0, 1, 0, 0], "0100", None, 0, ((0, 1, 0, 0),), ((0,), 1, 0, 0), ([], 1, 0, 0), ({}, 1, 0, 0),
)


class ExamplesTest(unittest.TestCase):
    def test_examples(self):
        self.assertEqual(check_examples(self, EXAMPLES), 4)


class PatternErrorTest(unittest.TestCase):
    def check(self, wanted, value):
        check_call(self, pattern_error, wanted, value=value)

    def test_patterns(self):
        for rule in RULES_AT_0:
            self.check(None, ((rule,), ()))
            self.check(None, ((rule, RULE, RULE, RULE), ()))
            for bound in BOUNDS_OF_2:
                self.check(None, ((rule,), (bound,)))
                # One bound may stand several times.
                self.check(None, ((rule,), (bound,) * 6))
        for of in range(4):
            self.check(None, ((RULE, RULE, RULE, (of, 1, 2, (0,), "any")), ()))
        for one, two in permutations(range(5), 2):
            self.check(None, ((RULE,) * 4, ((one, two, 0, 3),)))
        for pattern in some_patterns(200, 1):
            self.check(None, pattern)

    def test_form(self):
        for value in ODD_VALUES + (UP[:1], UP + ((),), list(UP), [(RULE,), ()], RULE, "ab", {0: UP}, (UP, (), ())):
            if not isinstance(value, tuple) or len(value) != 2:
                self.check("form", value)

    def test_rules(self):
        for rules in ODD_VALUES + ((), [RULE], (RULE,) * 5, (RULE,) * 6, (None,) * 5, {0: RULE}, "rule", None, 7):
            if not isinstance(rules, tuple) or not 1 <= len(rules) <= 4:
                for bounds in ((), ((0, 1, 0, 0),), None, [], (None,), ((0, 0, 0, 0),) * 7):
                    self.check("rules", (rules, bounds))

    def test_rule(self):
        for rule in NO_RULES + ((1, 1, 2, (2,), "same"),):
            for bounds in ((), ((0, 1, 0, 0),), None, [], (None,) * 7, (None,)):
                self.check(("rule", 0), ((rule,), bounds))
                self.check(("rule", 0), ((rule, RULE), bounds))
                self.check(("rule", 0), ((rule, None, rule, ()), bounds))
        for place in range(4):
            for rule in NO_RULES:
                self.check(("rule", place), ((RULE,) * place + (rule,) * (4 - place), None))
            for of in range(-1, 6):
                own = (of,) + RULE[1:]
                wanted = None if 0 <= of <= place else ("rule", place)
                self.check(wanted, ((RULE,) * place + (own,), ()))
                self.check(wanted, ((RULE,) * place + (own,), ((0, 1, 0, 0),)))
        for value in ODD_VALUES:
            self.check(("rule", 0), ((value,), ()))
            self.check(("rule", 1), ((RULE, value), ()))
            for at in range(5):
                rule = RULE[:at] + (value,) + RULE[at + 1:]
                fits = type(value) is int and (at, value) in ((0, 0), (1, 0), (1, 1), (1, -1), (2, 1), (2, 7))
                if at == 3:
                    fits = value in ((1,), (1, 2, 3)) and type(value[0]) is int
                self.check(None if fits else ("rule", 0), ((rule,), ()))

    def test_bounds(self):
        for bounds in ODD_VALUES + ([], [(0, 1, 0, 0)], ((0, 1, 0, 0),) * 7, (None,) * 7, {}, "bound", None, 7, {0: 1}):
            if not isinstance(bounds, tuple) or len(bounds) > 6:
                self.check("bounds", ((RULE,), bounds))
                self.check(("rule", 0), ((None,), bounds))

    def test_bound(self):
        for bound in NO_BOUNDS_OF_2:
            for many in range(6):
                self.check(("bound", many), ((RULE,), ((0, 1, 0, 0),) * many + (bound,)))
                self.check(("bound", many), ((RULE,), ((0, 1, 0, 0),) * many + (bound,) * (6 - many)))
            self.check(("rule", 0), ((None,), (bound,)))
        for value in ODD_VALUES:
            self.check(("bound", 0), ((RULE,), (value,)))
            self.check(("bound", 1), ((RULE,), ((0, 1, 0, 0), value)))
        # The greatest number is that of the last rule.
        for many in range(1, 5):
            for one in range(-1, 7):
                for two in range(-1, 7):
                    fits = one != two and 0 <= min(one, two) and max(one, two) <= many
                    self.check(None if fits else ("bound", 0), ((RULE,) * many, ((one, two, 0, 1),)))

    def test_6_and_7_bounds(self):
        own = ((0, 1, 0, 0), (1, 0, -5, 48), (0, 1, 0, 0), (1, 0, -48, -48), (0, 1, 3, 3), (0, 1, 1, 9))
        for many in range(7):
            self.check(None, ((RULE,), own[:many]))
        self.check("bounds", ((RULE,), own + own[:1]))
        self.check("bounds", ((RULE,), own + (None,)))
        self.check("bounds", ((RULE,), (None,) * 7))
        self.check(("bound", 0), ((RULE,), (None,) * 6))


class PlacesOfTest(unittest.TestCase):
    def check(self, score, pattern):
        """Check the places beside a plain going through; return how many there are."""
        wanted = told_places(score, pattern)
        check_call(self, places_of, wanted, score=score, pattern=pattern)
        return len(wanted)

    def test_beside_all_rows(self):
        seen = {}
        for seed, pattern in enumerate(some_patterns(250, 2)):
            for score in some_pattern_scores(3, pattern, seed):
                many = self.check(score, pattern)
                seen[len(pattern[0]), len(pattern[1]) > 0, many > 0] = True
        for rules in range(1, 5):
            for bounds in (False, True):
                for some in (False, True):
                    self.assertIn((rules, bounds, some), seen)

    def test_voices(self):
        score = tuple(sorted([(onset, pitch, voice, 1 + voice) for onset in range(3) for pitch in (60, 62) for voice in (0, 3, 7)]))
        for voice in ("same", "other", "any"):
            for further in ("same", "other", "any"):
                self.assertGreater(self.check(score, (((0, 0, 1, (0, 2), voice), (1, -1, 0, (-2, 0), further)), ())), 10)
        # No note stands twice, so at one point only unlike voices are two notes.
        self.assertEqual(self.check(score, (((0, 0, 0, (0,), "same"),), ())), 0)
        self.assertEqual(self.check(score, (((0, 0, 0, (0,), "other"),), ())), 36)
        self.assertEqual(self.check(score, (((0, 0, 0, (0,), "any"),), ())), 36)

    def test_no_note_twice(self):
        # The third note would be the first one again.
        back = (((0, 1, 1, (2,), "any"), (1, -1, -1, (-2,), "any")), ())
        one = ((0, 60, 0, 1), (1, 62, 0, 1))
        self.assertEqual(self.check(one, back), 0)
        self.assertEqual(self.check(((0, 60, 0, 1), (0, 60, 1, 1), (1, 62, 0, 1)), back), 2)
        self.assertEqual(self.check(tuple([(0, 60, voice, 1) for voice in range(3)]), (((0, 0, 0, (0,), "any"),) * 3, ())), 0)
        self.assertEqual(self.check(tuple([(0, 60, voice, 1) for voice in range(4)]), (((0, 0, 0, (0,), "any"),) * 3, ())), 24)

    def test_bounds_either_way_about(self):
        score = tuple([(onset, 60 + onset % 3, 0, 1) for onset in range(9)])
        rules = ((0, -4, 4, (-2, -1, 0, 1, 2), "any"), (0, -4, 4, (-2, -1, 0, 1, 2), "any"))
        for one, two in permutations(range(3), 2):
            for low, high in ((1, 2), (-2, -1), (-1, 3), (0, 0), (3, 48), (-48, 0)):
                many = self.check(score, (rules, ((one, two, low, high),)))
                self.assertEqual(many, self.check(score, (rules, ((two, one, -high, -low),))))
                self.assertEqual(many, self.check(score, (rules, ((one, two, low, high), (two, one, -high, -low)))))
        # Two bounds of the same numbers are both kept.
        self.assertEqual(self.check(score, (rules, ((1, 2, 1, 2), (1, 2, 3, 4)))), 0)
        self.assertEqual(self.check(score, (rules, ((1, 2, 1, 3), (2, 1, -4, -2)))),
                         self.check(score, (rules, ((1, 2, 2, 3),))))

    def test_an_earlier_number_several_times(self):
        score = tuple([(onset, 60 + onset, 0, 1) for onset in range(6)])
        for ofs in ((0, 0, 0), (0, 1, 1), (0, 1, 2), (0, 0, 2), (0, 1, 0)):
            rules = tuple([(of, 1, 2 + place, (1, 2, 3), "same") for place, of in enumerate(ofs)])
            self.assertGreater(self.check(score, (rules, ())), 3)

    def test_windows(self):
        score = tuple([(onset, 60, 0, 1) for onset in (0, 3, 48, 49, 96, 97)])
        for low, high in ((-48, 48), (48, 48), (-48, -48), (47, 47), (1, 1), (0, 47), (3, 45), (46, 48), (-48, -46)):
            self.check(score, (((0, low, high, (0,), "any"),), ()))
            self.check(score, (((0, low, high, (0,), "any"), (0, -48, 48, (0,), "any")), ((1, 2, -1, 1),)))
        self.assertEqual(self.check(score, (((0, 48, 48, (0,), "any"),), ())), 3)

    def test_pitches(self):
        score = tuple([(0, pitch, 0, 1) for pitch in (0, 24, 25, 48, 100, 124, 127)])
        for pitches in ((24,), (-24,), (-24, 24), (-1, 1, 3), tuple(range(-24, -16)), (23,), (-3, 0, 24)):
            self.check(score, (((0, 0, 0, pitches, "same"),), ()))
        self.assertEqual(self.check(score, (((0, 0, 0, (-24, 24), "same"),), ())), 6)

    def test_lengths_make_no_difference(self):
        score = tuple([(onset, 60, 0, length) for onset, length in enumerate((1, 999, 5, 5))])
        wanted = tuple([(score[at], score[at + 1]) for at in range(3)])
        check_call(self, places_of, wanted, score=score, pattern=(((0, 1, 1, (0,), "same"),), ()))

    def test_few_notes(self):
        for many in range(1, 5):
            pattern = (((0, -48, 48, (-1, 0, 1), "any"),) * many, ())
            for notes in range(many + 1):
                check_call(self, places_of, (), score=tuple([(at, 60, 0, 1) for at in range(notes)]), pattern=pattern)
            found = self.check(tuple([(at, 60, 0, 1) for at in range(many + 1)]), pattern)
            self.assertEqual(found, (2, 6, 24, 120)[many - 1])

    def test_rings(self):
        score = tuple([(onset, 60, 0, 1) for onset in range(60)])
        for pattern in ((((0, 1, 2, (0,), "any"), (1, 1, 2, (0,), "any")), ((0, 2, 0, 1),)),
                        (((0, -48, 48, (0,), "any"),) * 4, ((3, 4, 1, 1), (4, 3, 0, 0))),
                        (((0, -48, 48, (0,), "any"),) * 4, ((1, 2, 1, 9), (2, 3, 1, 9), (3, 4, 1, 9), (4, 1, -2, 48)))):
            check_call(self, places_of, (), score=score, pattern=pattern)

    def test_2000_places_and_more(self):
        # Each of 10 notes with each of 10 others and each of 20 others; no other notes keep both rules.
        pattern = (((0, -48, 48, (2,), "any"), (0, -48, 48, (4,), "any")), ())
        lots = [(onset, pitch, 0, 1) for pitch, many in ((60, 10), (62, 10), (64, 20)) for onset in range(many)]
        score = tuple(sorted(lots))
        self.assertEqual(self.check(score, pattern), 2000)
        # Three notes far away are just one place more.
        more = score + tuple([(500, pitch, 0, 1) for pitch in (60, 62, 64)])
        self.assertEqual(len(told_places(more, pattern)), 2001)
        check_call(self, places_of, TooMany(2000), score=more, pattern=pattern)
        self.assertEqual(self.check(more[1:], pattern), 1801)
        self.assertEqual(self.check(more[:-1], pattern), 2000)

    def test_many_more_places(self):
        score = tuple([(onset, 60, 0, 1) for onset in range(60)])
        for many in (2, 3, 4):
            check_call(self, places_of, TooMany(2000), score=score, pattern=(((0, -48, 48, (0,), "any"),) * many, ()))
        check_call(self, places_of, TooMany(2000), score=score, pattern=(((0, -48, 48, (0,), "any"),), ()))
        self.assertEqual(len(places_of(score, (((0, 1, 48, (0,), "any"),), ()))), 48 * 12 + 48 * 47 // 2)

    def test_few_places_of_60_notes(self):
        # All numbers but the last one may be nearly any note; the last one none, or one alone.
        score = tuple([(2 * at, 60, 0, 1) for at in range(59)]) + ((200, 84, 0, 1),)
        free = (0, -48, 48, (0,), "any")
        for last in ((0, -48, 48, (24,), "any"), (3, 1, 1, (0,), "any"), (0, -48, 48, (0,), "other")):
            check_call(self, places_of, (), score=score, pattern=((free, free, free, last), ()))
        check_call(self, places_of, (), score=score, pattern=((free,) * 4, ((3, 4, 1, 1),)))
        check_call(self, places_of, (), score=score, pattern=((free,) * 4, ((1, 3, 1, 1), (2, 4, -3, -3))))

    def test_bad_patterns(self):
        crowd = tuple([(onset, 60, 0, 1) for onset in range(60)])
        for score in ((), ROW, crowd):
            for pattern, error in ((UP[:1], "form"), (list(UP), "form"), (((), ()), "rules"), (((RULE,) * 5, ()), "rules"),
                                   (((RULE, (2, 1, 2, (2,), "same")), ()), ("rule", 1)),
                                   (((RULE,), [(0, 1, 1, 1)]), "bounds"), (((RULE,), ((0, 1, 0, 0),) * 7), "bounds"),
                                   (((RULE,), ((0, 1, 0, 0), (0, 2, 0, 0))), ("bound", 1)),
                                   (((free_rule(),) * 4, ((0, 0, 0, 0),)), ("bound", 0))):
                check_call(self, places_of, BadPattern(error), score=score, pattern=pattern)
            for value in ODD_VALUES:
                if pattern_error(value) is not None:
                    check_call(self, places_of, BadPattern(pattern_error(value)), score=score, pattern=value)

    def test_each_place_keeps_all(self):
        for pattern in some_patterns(40, 5):
            for score in some_pattern_scores(2, pattern, 5):
                for place in places_of(score, pattern):
                    self.assertTrue(told_keeps(pattern, place))
                    self.assertEqual(len(set(place)), len(pattern[0]) + 1)


def free_rule():
    """Return a rule that most notes keep."""
    return (0, -48, 48, (0,), "any")


if __name__ == "__main__":
    unittest.main()
