"""Notes and scores: heardagain.scores, [A3], [A4] and [A6]."""

import unittest

from heardagain.scores import is_note, notes_at, points_of, score_error, voices_of
from tests.helper import ODD_VALUES, check_call, check_examples, same

EXAMPLES = """
    >>> from heardagain.scores import is_note, notes_at, points_of, score_error, voices_of
    >>> duet = ((0, 60, 0, 2), (0, 64, 1, 2), (2, 62, 0, 2), (4, 64, 0, 4), (4, 64, 1, 4))
    >>> is_note((0, 60, 0, 2)), is_note((0, 128, 0, 2)), is_note((0, 60, 0, 0)), is_note([0, 60, 0, 2]), is_note((0, 60, False, 2))
    (True, False, False, False, False)
    >>> score_error(duet), score_error(()), score_error(list(duet)), score_error(duet + ((5, 60, 0),)), score_error(duet + duet[:1])
    (None, None, 'form', ('note', 5), ('order', 5))
    >>> score_error(((0, 60, 0, 2), (0, 60, 0, 4))), score_error(tuple([(k, 60, 0, 1) for k in range(61)])), score_error(duet[::-1] + (None,))
    (('order', 1), 'many', ('note', 5))
    >>> points_of(duet), voices_of(duet), notes_at(duet, (4, 64)), notes_at(duet, (4, 60)), points_of(())
    (((0, 60), (0, 64), (2, 62), (4, 64)), (0, 1), ((4, 64, 0, 4), (4, 64, 1, 4)), (), ())
"""

DUET = ((0, 60, 0, 2), (0, 64, 1, 2), (2, 62, 0, 2), (4, 64, 0, 4), (4, 64, 1, 4))
NOTE = (5, 60, 3, 2)
RANGES = ((0, 9999), (0, 127), (0, 7), (1, 999))


def with_item(note, place, item):
    """Return a note with another item at a place."""
    return note[:place] + (item,) + note[place + 1:]


def row(many):
    """Return so many notes in order."""
    return tuple([(k, 60, 0, 1) for k in range(many)])


class ExamplesTest(unittest.TestCase):
    def test_examples(self):
        self.assertEqual(check_examples(self, EXAMPLES), 4)


class IsNoteTest(unittest.TestCase):
    def test_bounds(self):
        for place, (low, high) in enumerate(RANGES):
            for item in (low, low + 1, high - 1, high):
                self.assertIs(is_note(with_item(NOTE, place, item)), True, (place, item))
            for item in (low - 1, high + 1, -10 ** 399, 10 ** 399):
                self.assertIs(is_note(with_item(NOTE, place, item)), False, (place, item))

    def test_items_that_are_no_integers(self):
        for place in range(4):
            for item in (True, False, None, "1", "", [1], (1,), (), {}, {1: 1}):
                self.assertIs(is_note(with_item(NOTE, place, item)), False, (place, item))

    def test_other_forms(self):
        for value in ODD_VALUES + (NOTE[:3], NOTE + (1,), NOTE + NOTE, list(NOTE), [NOTE], (NOTE,), "5632"):
            check_call(self, is_note, False, value=value)

    def test_by_name(self):
        check_call(self, is_note, True, value=NOTE)


class ScoreErrorTest(unittest.TestCase):
    def test_scores(self):
        for value in ((), DUET, DUET[:1], DUET[1:], row(59), row(60)):
            check_call(self, score_error, None, value=value)

    def test_form(self):
        for value in (None, True, 0, 1, "", "score", [], list(DUET), {}, {0: DUET[0]}, [()], row):
            check_call(self, score_error, "form", value=value)

    def test_note(self):
        wrong = ODD_VALUES + (NOTE[:3], NOTE + (1,), list(NOTE), (True, 60, 0, 1), (0, 60, 0, True), (10000, 60, 0, 1),
                              (0, 128, 0, 1), (0, 60, 8, 1), (0, 60, 0, 1000), (0, 60, 0, 0), (-1, 60, 0, 1))
        for item in wrong:
            for place in range(len(DUET) + 1):
                check_call(self, score_error, ("note", place), value=DUET[:place] + (item,) + DUET[place:])

    def test_the_first_wrong_note_is_told(self):
        self.assertEqual(score_error((None, 1, DUET[0])), ("note", 0))
        self.assertEqual(score_error(DUET[:2] + (DUET[2][:3], None) + DUET[3:]), ("note", 2))

    def test_a_score_is_no_note_of_a_score(self):
        self.assertEqual(score_error((DUET,)), ("note", 0))
        self.assertEqual(score_error(NOTE), ("note", 0))

    def test_order_by_onset_pitch_and_voice(self):
        base = (4, 60, 3, 5)
        for less in ((3, 99, 7, 9), (4, 59, 7, 9), (4, 60, 2, 9)):
            check_call(self, score_error, None, value=(less, base))
            check_call(self, score_error, ("order", 1), value=(base, less))

    def test_notes_unlike_in_length_alone(self):
        for length in (1, 5, 9):
            check_call(self, score_error, ("order", 1), value=((4, 60, 3, 5), (4, 60, 3, length)))

    def test_the_first_note_out_of_order_is_told(self):
        self.assertEqual(score_error(DUET[::-1]), ("order", 1))
        self.assertEqual(score_error(DUET + DUET), ("order", 5))
        self.assertEqual(score_error(DUET[:3] + DUET[2:]), ("order", 3))
        self.assertEqual(score_error(DUET[:2] + DUET[3:4] + DUET[2:3] + DUET[4:]), ("order", 3))

    def test_many(self):
        for many in (61, 62, 200):
            check_call(self, score_error, "many", value=row(many))

    def test_several_faults_at_once(self):
        self.assertEqual(score_error(list(row(61)) + [None]), "form")
        self.assertEqual(score_error(row(61)[::-1] + (None,)), ("note", 61))
        self.assertEqual(score_error(row(61) + row(1)), ("order", 61))
        self.assertEqual(score_error(row(61) + (NOTE[:3],)), ("note", 61))
        self.assertEqual(score_error(DUET[::-1] + (DUET[0][:3],)), ("note", 5))

    def test_any_value(self):
        for value in ODD_VALUES:
            wanted = ("note", 0) if isinstance(value, tuple) else "form"
            check_call(self, score_error, wanted, value=value)


class LooksTest(unittest.TestCase):
    def test_points_once_and_ascending(self):
        score = ((0, 60, 0, 1), (0, 60, 5, 9), (0, 61, 0, 1), (2, 3, 1, 1), (2, 3, 2, 2), (2, 3, 7, 1), (9999, 0, 0, 1))
        check_call(self, points_of, ((0, 60), (0, 61), (2, 3), (9999, 0)), score=score)
        check_call(self, points_of, (), score=())
        check_call(self, points_of, tuple([(k, 60) for k in range(60)]), score=row(60))

    def test_voices_once_and_ascending(self):
        score = ((0, 60, 7, 1), (0, 61, 2, 1), (1, 60, 7, 1), (2, 60, 0, 1), (2, 60, 2, 1))
        check_call(self, voices_of, (0, 2, 7), score=score)
        check_call(self, voices_of, (), score=())
        check_call(self, voices_of, (7,), score=score[:1])

    def test_notes_at(self):
        score = ((0, 60, 7, 1), (2, 59, 1, 1), (2, 60, 0, 3), (2, 60, 2, 1), (2, 60, 7, 2), (2, 61, 0, 1), (3, 60, 0, 1))
        check_call(self, notes_at, score[2:5], score=score, point=(2, 60))
        check_call(self, notes_at, score[:1], score=score, point=(0, 60))
        for point in ((0, 61), (60, 2), (-2, 60), (2, -9999), (9999, 9999)):
            check_call(self, notes_at, (), score=score, point=point)
        check_call(self, notes_at, (), score=(), point=(0, 0))

    def test_each_note_is_at_its_point(self):
        found = [note for point in points_of(DUET) for note in notes_at(DUET, point)]
        self.assertTrue(same(tuple(found), DUET))


if __name__ == "__main__":
    unittest.main()
