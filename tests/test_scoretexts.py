"""The texts of scores and points: heardagain.scoretexts, [A8]."""

import random
import unittest

from heardagain.errors import BadText
from heardagain.points import points_error
from heardagain.scores import score_error
from heardagain.scoretexts import points_text, read_points, read_score, score_text
from tests.helper import ODD_VALUES, check_call, check_examples, raised, same

EXAMPLES = """
    >>> duet = ((0, 60, 0, 2), (0, 64, 1, 2), (2, 62, 0, 2), (4, 64, 0, 4), (4, 64, 1, 4))
    >>> from heardagain.scoretexts import points_text, read_points, read_score, score_text
    >>> score_text(duet[:3]), score_text(()), points_text(((0, 0), (2, -4))), points_text(())
    ('score\\n0 60 0 2\\n0 64 1 2\\n2 62 0 2', 'score', '0,0 2,-4', 'none')
    >>> read_score("score\\n0 60 0 2\\n4 64 1 4"), read_points("0,0 2,-4"), read_points("none"), read_score(score_text(duet)) == duet
    (((0, 60, 0, 2), (4, 64, 1, 4)), ((0, 0), (2, -4)), (), True)
    >>> read_score("score\\n4 64 1 4\\n0 60 0 2")
    raises BadText()
    >>> read_score("score\\n00 60 0 2")
    raises BadText()
    >>> read_points("0,0  2,-4")
    raises BadText()
"""

DUET = ((0, 60, 0, 2), (0, 64, 1, 2), (2, 62, 0, 2), (4, 64, 0, 4), (4, 64, 1, 4))
EDGES = ((0, 0, 0, 1), (0, 0, 7, 999), (9999, 127, 0, 1), (9999, 127, 7, 999))
FAR = ((-9999, -9999), (-9999, 9999), (-1, 0), (0, -1), (0, 0), (9999, -9999), (9999, 9999))


def notes(many):
    """Return so many notes in order."""
    return tuple([(k, 60, 0, 1) for k in range(many)])


def row(many):
    """Return so many points in order."""
    return tuple([(k, -k) for k in range(many)])


def changed_once(text, signs):
    """Return all texts with one sign taken out, doubled, exchanged, or put in."""
    found = []
    for at in range(len(text) + 1):
        found.extend([text[:at] + sign + text[at:] for sign in signs])
        found.extend([text[:at] + sign + text[at + 1:] for sign in signs])
        found.append(text[:at] + text[at + 1:])
    return found


class ExamplesTest(unittest.TestCase):
    def test_examples(self):
        self.assertEqual(check_examples(self, EXAMPLES), 5)


class TextsTest(unittest.TestCase):
    def test_score_text(self):
        check_call(self, score_text, "score\n0 0 0 1\n0 0 7 999\n9999 127 0 1\n9999 127 7 999", score=EDGES)
        check_call(self, score_text, "score\n10 100 7 20", score=((10, 100, 7, 20),))
        check_call(self, score_text, "score", score=())

    def test_points_text(self):
        told = "-9999,-9999 -9999,9999 -1,0 0,-1 0,0 9999,-9999 9999,9999"
        check_call(self, points_text, told, points=FAR)
        check_call(self, points_text, "0,0", points=((0, 0),))
        check_call(self, points_text, "none", points=())

    def test_read_back(self):
        for score in ((), DUET, DUET[2:3], EDGES, notes(59), notes(60)):
            check_call(self, read_score, score, value=score_text(score))
        for points in ((), FAR, FAR[:1], ((0, 0),), row(59), row(60)):
            check_call(self, read_points, points, value=points_text(points))

    def test_random_ones_read_back(self):
        dice = random.Random(8)
        for _ in range(200):
            some = {(dice.randrange(10000), dice.randrange(128), dice.randrange(8)) for _ in range(dice.randrange(20))}
            score = tuple([note + (dice.randint(1, 999),) for note in sorted(some)])
            self.assertTrue(same(read_score(score_text(score)), score))
            points = tuple(sorted({(dice.randint(-9999, 9999), dice.randint(-99, 99)) for _ in some}))
            self.assertTrue(same(read_points(points_text(points)), points))

    def test_unlike_ones_have_unlike_texts(self):
        self.assertEqual(len({score_text(DUET[:k]) for k in range(6)}), 6)
        self.assertNotEqual(points_text(((1, 23),)), points_text(((12, 3),)))


class WrongTextsTest(unittest.TestCase):
    def test_no_strings(self):
        for value in ODD_VALUES + (["score"], ("score",), DUET, ((0, 0),), {"score": 1}):
            check_call(self, read_score, BadText(), value=value)
            check_call(self, read_points, BadText(), value=value)

    def test_scores_nearly(self):
        line = "\n0 60 0 2"
        for value in ("", " score", "score ", "score\n", "\nscore", "Score", "SCORE", "scores", "core", "none", "score\n\n",
                      "score" + line + "\n", "score" + line + " ", "\nscore" + line, " score" + line, "score " + line,
                      "score\n" + line, "score" + line + "\n" + line + "\n", line, line[1:], "score" + line + line,
                      "score 0 60 0 2", "score\r" + line, "score, " + line, "score" + line + "\nscore"):
            check_call(self, read_score, BadText(), value=value)

    def test_notes_nearly(self):
        for told in ("00 60 0 2", "0 060 0 2", "0 60 00 2", "0 60 0 02", "-0 60 0 2", "0 60 -0 2", "+0 60 0 2", "0 +60 0 2",
                     "0 60 0 +1", "0 60 0 2 ", " 0 60 0 2", "0  60 0 2", "0 60 0  2", "0 60 0", "0 60 0 2 1", "0", "", " ",
                     "   ", "0,60,0,2", "0 60,0 2", "0\t60 0 2", "a 60 0 2", "0 60 0 x", "0 6_0 0 2", "0 60 0 2.0",
                     "0x1 60 0 2", "0 60 0 1e1", "- 60 0 2", "0 60 0 -", "0 60 0 --1", "0 60 0 1-", "(0, 60, 0, 2)",
                     "True 60 0 2", "None", "0 60 0 2\n0 60 0 2"):
            check_call(self, read_score, BadText(), value="score\n" + told)
            self.assertIsInstance(raised(lambda: read_score("score\n" + told + "\n9 60 0 2")), BadText)
            self.assertIsInstance(raised(lambda: read_score("score\n0 1 0 1\n" + told)), BadText)

    def test_notes_beyond_the_bounds(self):
        for told in ("-1 60 0 2", "10000 60 0 2", "0 -1 0 2", "0 128 0 2", "0 60 -1 2", "0 60 8 2", "0 60 0 0",
                     "0 60 0 1000", "0 60 0 -1", "1" + "0" * 6000 + " 60 0 2", "0 60 0 " + "9" * 19000):
            check_call(self, read_score, BadText(), value="score\n" + told)

    def test_scores_out_of_order_or_too_many(self):
        for score in (DUET[::-1], DUET + DUET, DUET[:1] * 2, ((0, 60, 0, 2), (0, 60, 0, 4)), notes(61), notes(200)):
            self.assertIsNotNone(score_error(score))
            check_call(self, read_score, BadText(), value=score_text(score))

    def test_points_nearly(self):
        for value in ("", " ", "none ", " none", "none\n", "\nnone", "None", "NONE", "none none", "none 0,0", "0,0 none", "score",
                      "0,0 ", " 0,0", "0,0  2,4", "0,0\n2,4", "0,0\n", "\n0,0", "0,0, 2,4", "0, 0", "0 ,0", "0", "0,", ",0",
                      ",", "0,0,0", "0,0 2", "0,0 2,", "00,0", "0,00", "01,2", "1,02", "-0,1", "1,-0", "+1,1", "1,+1", "- 1,1",
                      "-,1", "1,-", "--1,1", "1,1-", "a,1", "1,b", "1.0,1", "1_0,1", "0x1,1", "1e1,1", "(0,0)", "0;0",
                      "0,0;2,4", "True,1", "0,0\t2,4"):
            check_call(self, read_points, BadText(), value=value)

    def test_points_beyond_the_bounds(self):
        for value in ("10000,0", "-10000,0", "0,10000", "0,-10000", "0,0 1,10000", "9" * 19000 + ",0", "0,-" + "9" * 6000):
            check_call(self, read_points, BadText(), value=value)

    def test_points_out_of_order_or_too_many(self):
        for points in (FAR[::-1], FAR + FAR, ((0, 0), (0, 0)), ((1, 0), (0, 0)), ((0, 1), (0, 0)), row(61), row(300)):
            self.assertIsNotNone(points_error(points))
            check_call(self, read_points, BadText(), value=points_text(points))

    def test_one_for_the_other(self):
        for score in ((), DUET, notes(60)):
            check_call(self, read_points, BadText(), value=score_text(score))
        for points in ((), FAR, row(60)):
            check_call(self, read_score, BadText(), value=points_text(points))

    def test_what_is_read_is_written_so(self):
        # Whatever is changed in a text: it is read only if it is the very text of what is read.
        signs = "0129 -+,\nsx_"
        many = 0
        for value in changed_once("score\n0 60 0 2\n10 61 1 1", signs):
            found = raised(lambda: read_score(value))
            if not isinstance(found, BadText):
                self.assertIsNone(score_error(found))
                self.assertEqual(score_text(found), value)
                many += 1
        for value in changed_once("-1,-20 0,0 10,3", signs):
            found = raised(lambda: read_points(value))
            if not isinstance(found, BadText):
                self.assertIsNone(points_error(found))
                self.assertEqual(points_text(found), value)
                many += 1
        self.assertGreater(many, 100)


if __name__ == "__main__":
    unittest.main()
