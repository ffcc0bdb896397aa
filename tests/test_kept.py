"""Kept scores: heardagain.kept, [J1] to [J5], [A2] (i)."""

import inspect
import random
import unittest

from heardagain.closed import closed_pairs
from heardagain.errors import BadPoints, BadScore, NoKind, NoName, NoNote, NoVersion, Taken, TooMany, Unfit
from heardagain.kept import Kept
from heardagain.keys import steps
from heardagain.moves import move_error
from heardagain.places import places
from heardagain.scores import points_of, score_error
from tests.helper import (JUST_300, JUST_301, NO_KINDS, ODD_VALUES, check_call, check_examples, flat, raised, same, same_error,
                          score_at)

EXAMPLES = """
    >>> from heardagain.kept import Kept
    >>> up, one, two = ((0, 0), (2, 2)), ((1, 1), (0, 1), 1, 60), ((1, 1), (2, 1), 1, 62)
    >>> k = Kept(((0, 60, 0, 1), (2, 62, 0, 1)))
    >>> [k.version, k.looks, k.steps, k.stand("up", up, "shift", 2) == ((one, up),)]
    [0, 1, (((2, 2), 1),), True]
    >>> [k.put((4, 64, 0, 1)), k.looks, k.steps, k.news(0) == (("come", 1, "up", two),)]
    [1, 3, (((2, 2), 2), ((4, 4), 1)), True]
    >>> [k.put((4, 64, 1, 2)), k.looks, k.news(1), len(k.places("up"))]
    [2, 3, (), 2]
    >>> [k.cut((0, 60, 0, 1)), k.looks, k.news(2) == (("gone", 3, "up", one),), k.cut((4, 64, 0, 1)), k.news(3)]
    [3, 3, True, 4, ()]
    >>> k.score, k.closed()
    (((2, 62, 0, 1), (4, 64, 1, 2)), ((((2, 62),), ((0, 0), (2, 2))),))
    >>> [k.stand("all", up, "flip", 2) == k.places("up"), k.drop("up"), k.put((0, 60, 0, 9)), k.looks, k.news(0) == (("come", 5, "all", one),)]
    [True, None, 5, 5, True]
    >>> k.put((4, 64, 1, 9))
    raises Taken((4, 64, 1, 9))
    >>> k.put((4, 64, 8, 1))
    raises BadScore(('note', 0))
    >>> k.cut((4, 64, 1, 9))
    raises NoNote((4, 64, 1, 9))
    >>> k.places("up")
    raises NoName('up')
    >>> k.stand("all", up, "shift", 2)
    raises Taken('all')
    >>> k.stand("more", up, "slow", 2)
    raises Unfit()
    >>> k.news(6)
    raises NoVersion(6)
    >>> Kept(((2, 60, 0, 1), (0, 60, 0, 1)))
    raises BadScore(('order', 1))
"""

UP = ((0, 0), (2, 2))
DUO = ((0, 60, 0, 1), (2, 62, 0, 1))
KINDS = ("shift", "flip", "back", "both")
HUGE = 10 ** 399
NO_NOTES = ODD_VALUES + ([0, 60, 0, 1], (0, 60, 0), (0, 60, 0, 1, 1), (0, 60, 0, 0), (0, 60, 8, 1), (0, 128, 0, 1), (10000, 60, 0, 1),
                         (-1, 60, 0, 1), (0, -1, 0, 1), (0, 60, -1, 1), (0, 60, 0, 1000), (0, 60, False, 1), (0, 60, 0, True),
                         (True, 60, 0, 1), ("0", 60, 0, 1), (None, 60, 0, 1), ((0, 60, 0, 1),), (HUGE, 60, 0, 1))
NO_NAMES = tuple([value for value in ODD_VALUES if value != "abc"]) + (
    "", "Up", "UP", "up ", " up", "u p", "u1", "up1", "u-p", "u_p", "up\n", "ninechars", "abcdefghi", "1", "_",
    ("up",), ["up"], {"up": 1}, "a" * 9, "{", "`", "@", "[", "\u00e9", "a\u00df", "\u03b1")


def state_of(kept):
    """Return all that can be told of a kept score with these searches."""
    return (kept.score, kept.version, kept.steps, kept.looks, kept.news(0))


class Told:
    """What is told of a kept score, worked out anew at each time."""

    def __init__(self, score):
        self.score = score
        self.version = 0
        many = len(points_of(score))
        self.looks = many * (many - 1) // 2
        self.searches = {}
        self.events = {}

    def edit(self, score):
        """Go on with an edit."""
        before, points = self.score, points_of(self.score)
        self.score, self.version = score, self.version + 1
        if len(score) > len(before) and len(points_of(score)) > len(points):
            self.looks += len(points)
        for name, told in self.searches.items():
            old = [move for move, _ in places(before, *told)]
            new = [move for move, _ in places(score, *told)]
            self.events[name] += [(self.version, name, "come", move) for move in new if move not in old]
            self.events[name] += [(self.version, name, "gone", move) for move in old if move not in new]

    def news(self, since):
        """Return the events behind a version."""
        rows = sorted([row for rows in self.events.values() for row in rows if row[0] > since])
        return tuple([(word, version, name, move) for version, name, word, move in rows])


def some_figure(dice):
    """Return a small figure."""
    while True:
        figure = tuple(sorted({(dice.randint(0, 3), dice.randint(-2, 2)) for _ in range(dice.randint(2, 4))}))
        if len(figure) > 1 and figure[0][0] != figure[-1][0]:
            return figure


class ExamplesTest(unittest.TestCase):
    def test_examples(self):
        self.assertEqual(check_examples(self, EXAMPLES), 14)


class DrawnTest(unittest.TestCase):
    def test_drawn_edits(self):
        seen = {}
        for seed in range(40):
            self.go(random.Random(seed), seen)
        for word in ("put", "put beside", "cut", "cut beside", "stand", "drop", "come", "gone", "full", "again"):
            self.assertGreater(seen.get(word, 0), 10, word)

    def go(self, dice, seen):
        score = tuple(sorted({(dice.randrange(8), dice.randint(60, 63), 0, 1) for _ in range(dice.randint(0, 6))}))
        kept, told, moves = Kept(score), Told(score), {}
        begun = {}
        for _ in range(50):
            way = dice.random()
            if way < 0.4:
                self.put(kept, told, dice, seen)
            elif way < 0.7:
                self.cut(kept, told, dice, seen)
            elif way < 0.96:
                self.stand(kept, told, dice, seen, begun)
            elif told.searches:
                name = dice.choice(sorted(told.searches))
                self.assertIsNone(kept.drop(name))
                del told.searches[name], told.events[name]
                seen["drop"] = seen.get("drop", 0) + 1
            self.check(kept, told, begun)
        for word, version, name, move in kept.news(0):
            seen[word] = seen.get(word, 0) + 1
            seen["again"] = seen.get("again", 0) + ((word, name, move) in moves)
            moves[word, name, move] = True

    def put(self, kept, told, dice, seen):
        note = (dice.randrange(8), dice.randint(60, 63), dice.choice((0, 0, 1, 2)), dice.randint(1, 3))
        if note[:3] in [own[:3] for own in told.score]:
            with self.assertRaises(Taken):
                kept.put(note)
            return
        beside = note[:2] in points_of(told.score)
        seen["put" + " beside" * beside] = seen.get("put" + " beside" * beside, 0) + 1
        told.edit(tuple(sorted(told.score + (note,))))
        self.assertEqual(kept.put(note), told.version)

    def cut(self, kept, told, dice, seen):
        if not told.score:
            with self.assertRaises(NoNote):
                kept.cut((0, 60, 0, 1))
            return
        note = dice.choice(told.score)
        score = tuple([own for own in told.score if own != note])
        beside = note[:2] in points_of(score)
        seen["cut" + " beside" * beside] = seen.get("cut" + " beside" * beside, 0) + 1
        told.edit(score)
        self.assertEqual(kept.cut(note), told.version)

    def stand(self, kept, told, dice, seen, begun):
        figure = some_figure(dice)
        name = dice.choice(("a", "b", "ab", "z", "search", "abcdefgh", "c", "d"))
        own = (figure, dice.choice(KINDS), dice.randint(2, len(figure)))
        found = raised(lambda: kept.stand(name, *own))
        if name in told.searches:
            self.assertTrue(same_error(found, Taken(name)))
        elif len(told.searches) == 6:
            self.assertTrue(same_error(found, TooMany(6)))
            seen["full"] = seen.get("full", 0) + 1
        else:
            self.assertTrue(same(found, places(told.score, *own)))
            told.searches[name], told.events[name] = own, []
            begun[name] = {move for move, _ in found}
            seen["stand"] = seen.get("stand", 0) + 1

    def check(self, kept, told, begun):
        self.assertTrue(same(kept.score, told.score))
        self.assertIsNone(score_error(kept.score))
        self.assertTrue(same(kept.version, told.version))
        self.assertTrue(same(kept.looks, told.looks))
        anew = Kept(told.score)
        self.assertTrue(same(kept.steps, steps(points_of(told.score), 9999)))
        self.assertTrue(same(kept.steps, anew.steps))
        self.assertTrue(same(raised(kept.closed), closed_pairs(told.score)))
        for name, own in told.searches.items():
            self.assertTrue(same(kept.places(name), places(told.score, *own)))
            self.assertTrue(same(kept.places(name), anew.stand(name, *own)))
            now = set(begun[name])
            for word, _, other, move in kept.news(0):
                self.assertIsNone(move_error(move))
                if other == name and word == "come":
                    self.assertNotIn(move, now)
                    now.add(move)
                elif other == name:
                    now.remove(move)
            self.assertEqual(now, {move for move, _ in kept.places(name)})
        for since in range(told.version + 1):
            self.assertTrue(same(kept.news(since), told.news(since)))


class ScoreTest(unittest.TestCase):
    def test_scores(self):
        for score in ((), DUO, DUO[:1], ((0, 60, 0, 1), (0, 60, 3, 1), (2, 62, 0, 9)), score_at(flat(60))):
            kept = Kept(score)
            many = len(points_of(score))
            self.assertTrue(same(state_of(kept), (score, 0, steps(points_of(score), 9999), many * (many - 1) // 2, ())))
            self.assertTrue(same(state_of(Kept(score=score)), state_of(kept)))

    def test_wrong_scores(self):
        many = tuple([(onset, 60, 0, 1) for onset in range(61)])
        for value, error in ((list(DUO), "form"), (DUO + (None,), ("note", 2)), (DUO[::-1], ("order", 1)), (many, "many"),
                             (DUO + ((3, 60, 0, True),), ("note", 2)), (None, "form"), ("", "form")):
            check_call(self, make, BadScore(error), score=value)
        for value in ODD_VALUES:
            if value != ():
                check_call(self, make, BadScore(score_error(value)), score=value)

    def test_properties_can_only_be_read(self):
        kept = Kept(DUO)
        for name, value in (("score", ()), ("version", 1), ("steps", ()), ("looks", 0)):
            with self.assertRaises(AttributeError):
                setattr(kept, name, value)
            with self.assertRaises(AttributeError):
                delattr(kept, name)
        self.assertEqual(state_of(kept), (DUO, 0, (((2, 2), 1),), 1, ()))

    def test_what_is_returned_does_not_change(self):
        kept = Kept(DUO)
        told = [kept.score, kept.steps, kept.stand("up", UP, "shift", 2), kept.news(0), kept.closed(), kept.places("up")]
        before = repr(told)
        for note in ((4, 64, 0, 1), (6, 66, 0, 1), (1, 61, 1, 1)):
            kept.put(note)
        kept.cut((0, 60, 0, 1))
        self.assertEqual(repr(told), before)
        self.assertNotEqual(kept.news(0), ())

    def test_two_kept_scores_are_apart(self):
        one, two = Kept(DUO), Kept(DUO)
        one.put((4, 64, 0, 1))
        one.stand("up", UP, "shift", 2)
        self.assertEqual(state_of(two), (DUO, 0, (((2, 2), 1),), 1, ()))
        with self.assertRaises(NoName):
            two.places("up")

    def test_methods_and_arguments(self):
        for name, arguments in (("put", ["note"]), ("cut", ["note"]), ("stand", ["name", "figure", "kind", "least"]),
                                ("drop", ["name"]), ("places", ["name"]), ("news", ["since"]), ("closed", [])):
            found = inspect.signature(vars(Kept)[name]).parameters
            self.assertEqual(list(found)[1:], arguments)
        kept = Kept(score=DUO)
        self.assertEqual(kept.stand(name="up", figure=UP, kind="shift", least=2), (((((1, 1), (0, 1), 1, 60)), UP),))
        self.assertEqual(kept.put(note=(4, 64, 0, 1)), 1)
        self.assertEqual(kept.news(since=0), (("come", 1, "up", ((1, 1), (2, 1), 1, 62)),))
        self.assertEqual(len(kept.places(name="up")), 2)
        self.assertEqual(kept.cut(note=(4, 64, 0, 1)), 2)
        self.assertIsNone(kept.drop(name="up"))


def make(score):
    """Return a kept score."""
    return Kept(score)


class EditsTest(unittest.TestCase):
    def check_raises(self, kept, wanted, call):
        """Check the error of a call, and that it changes nothing."""
        before = state_of(kept)
        for _ in range(2):
            found = raised(call)
            self.assertTrue(same_error(found, wanted), (found, wanted))
            self.assertTrue(same(state_of(kept), before))

    def test_put_raises(self):
        for score in (DUO, (), score_at(flat(60))):
            kept = Kept(score)
            for value in NO_NOTES:
                self.check_raises(kept, BadScore(("note", 0)), lambda value=value: kept.put(value))
        for score in (DUO, score_at(flat(60))):
            kept = Kept(score)
            for onset, pitch, voice, _ in score:
                for length in (1, 2, 999):
                    note = (onset, pitch, voice, length)
                    self.check_raises(kept, Taken(note), lambda note=note: kept.put(note))
        full = Kept(score_at(flat(60)))
        for note in ((60, 60, 0, 1), (0, 60, 1, 1), (0, 61, 0, 1), (9999, 127, 7, 999)):
            self.check_raises(full, BadScore("many"), lambda note=note: full.put(note))

    def test_60_notes(self):
        kept = Kept(score_at(flat(59)))
        self.assertEqual((kept.put((59, 60, 0, 1)), kept.looks), (1, 59 * 58 // 2 + 59))
        self.check_raises(kept, BadScore("many"), lambda: kept.put((60, 60, 0, 1)))
        self.assertEqual((kept.cut((0, 60, 0, 1)), kept.put((60, 60, 0, 1))), (2, 3))
        self.assertEqual(kept.score, tuple([(onset, 60, 0, 1) for onset in range(1, 61)]))
        self.assertEqual(kept.looks, 59 * 58 // 2 + 59 + 59)
        self.assertTrue(same(kept.steps, steps(points_of(kept.score), 9999)))
        # Eight voices at one point are one point.
        voices = Kept(tuple([(0, 60, voice, 1) for voice in range(8)]))
        self.assertEqual((voices.looks, voices.steps, voices.put((5, 60, 0, 1)), voices.looks), (0, (), 1, 1))

    def test_cut_raises(self):
        for score in ((), DUO, score_at(flat(60))):
            kept = Kept(score)
            for value in NO_NOTES + ((0, 61, 0, 1), (0, 60, 1, 1), (0, 60, 0, 2), (2, 62, 0, 999), (1, 62, 0, 1)):
                self.check_raises(kept, NoNote(value), lambda value=value: kept.cut(value))

    def test_true_is_not_1(self):
        kept = Kept(((1, 1, 1, 1), (1, 2, 0, 1)))
        for note in ((True, 1, 1, 1), (1, True, 1, 1), (1, 1, True, 1), (1, 1, 1, True), (1, 2, False, 1)):
            self.check_raises(kept, NoNote(note), lambda note=note: kept.cut(note))
            self.check_raises(kept, BadScore(("note", 0)), lambda note=note: kept.put(note))

    def test_down_to_no_notes_and_up_again(self):
        kept = Kept(DUO)
        kept.stand("up", UP, "both", 2)
        first = kept.places("up")
        self.assertEqual([kept.cut(DUO[0]), kept.cut(DUO[1]), kept.score, kept.steps, kept.looks, kept.places("up")],
                         [1, 2, (), (), 1, ()])
        self.assertEqual([kept.put(DUO[1]), kept.put(DUO[0]), kept.score, kept.looks], [3, 4, DUO, 2])
        self.assertEqual(kept.places("up"), first)
        self.assertEqual([(word, version) for word, version, _, _ in kept.news(0)],
                         [("gone", 1)] * len(first) + [("come", 4)] * len(first))
        self.assertEqual([move for _, _, _, move in kept.news(2)], [move for move, _ in first])

    def test_put_and_cut_leaves_the_score_as_it_was(self):
        dice = random.Random(3)
        for _ in range(60):
            score = tuple(sorted({(dice.randrange(6), dice.randint(60, 62), 0, 1) for _ in range(dice.randint(0, 7))}))
            kept = Kept(score)
            kept.stand("some", some_figure(dice), dice.choice(KINDS), 2)
            before = (kept.score, kept.steps, kept.places("some"), kept.closed())
            note = (dice.randrange(6), dice.randint(60, 62), 1, 1)
            kept.put(note)
            kept.cut(note)
            self.assertEqual((kept.score, kept.steps, kept.places("some"), kept.closed()), before)
            come = [move for word, version, _, move in kept.news(0) if (word, version) == ("come", 1)]
            gone = [move for word, version, _, move in kept.news(0) if (word, version) == ("gone", 2)]
            self.assertEqual(come, gone)
            self.assertEqual(len(kept.news(0)), 2 * len(come))

    def test_notes_of_other_voices_bring_nothing(self):
        kept = Kept(DUO)
        kept.stand("up", UP, "both", 2)
        for voice in range(1, 8):
            self.assertEqual(kept.put((2, 62, voice, 5)), voice)
        self.assertEqual((kept.looks, kept.news(0), kept.steps), (1, (), (((2, 2), 1),)))
        self.assertEqual(kept.cut((2, 62, 0, 1)), 8)
        self.assertEqual((kept.looks, kept.news(0), kept.steps), (1, (), (((2, 2), 1),)))
        for voice in range(1, 7):
            kept.cut((2, 62, voice, 5))
        self.assertEqual((kept.looks, kept.news(0)), (1, ()))
        self.assertEqual(kept.cut((2, 62, 7, 5)), 15)
        self.assertNotEqual(kept.news(0), ())

    def test_hits_that_change_bring_nothing(self):
        figure = ((0, 0), (1, 0), (2, 0))
        kept = Kept(((0, 60, 0, 1), (1, 60, 0, 1)))
        kept.stand("row", figure, "shift", 2)
        before = kept.places("row")
        kept.put((2, 60, 0, 1))
        still = ((1, 1), (0, 1), 1, 60)
        self.assertIn(still, [move for move, _ in before])
        self.assertNotIn(still, [move for _, _, _, move in kept.news(0)])
        self.assertIn((still, figure), kept.places("row"))
        self.assertIn((still, figure[:2]), before)


class SearchesTest(unittest.TestCase):
    check_raises = EditsTest.check_raises

    def test_names(self):
        kept = Kept(DUO)
        for name in NO_NAMES:
            for figure, kind, least in ((UP, "shift", 2), (None, None, None), ((), "fast", 9)):
                self.check_raises(kept, NoName(name), lambda: kept.stand(name, figure, kind, least))
            self.check_raises(kept, NoName(name), lambda: kept.places(name))
            self.check_raises(kept, NoName(name), lambda: kept.drop(name))
        for name in ("a", "z", "abcdefgh", "zzzzzzzz", "score"):
            self.check_raises(kept, NoName(name), lambda: kept.places(name))
            self.check_raises(kept, NoName(name), lambda: kept.drop(name))
            self.assertEqual(kept.stand(name, UP, "shift", 2), places(DUO, UP, "shift", 2))
            self.assertEqual(kept.places(name), places(DUO, UP, "shift", 2))

    def test_order_of_errors_of_stand(self):
        kept = Kept(DUO)
        for at, name in enumerate(("a", "b", "c", "d", "e")):
            kept.stand(name, UP, KINDS[at % 4], 2)
        for full in (False, True):
            if full:
                kept.stand("f", UP, "shift", 2)
            for name in ("a", "e"):
                for rest in ((UP, "shift", 2), (None, "fast", 9), ((), 7, "2")):
                    self.check_raises(kept, Taken(name), lambda: kept.stand(name, *rest))
            for figure, error in (([UP], "form"), ((UP,), ("point", 0)), (UP[::-1], ("order", 1)), (UP[:1], "few"),
                                  (tuple(flat(13)), "many"), (((0, 0), (0, 1)), "chord"), ((), "few"), ("UP", "form"),
                                  (((0, True), (1, 0)), ("point", 0))):
                for rest in (("shift", 2), ("fast", 9), (None, None), ("slow", 2)):
                    self.check_raises(kept, BadPoints(error), lambda: kept.stand("g", figure, *rest))
            for kind in NO_KINDS:
                for least in (2, 1, 3, None):
                    self.check_raises(kept, NoKind(kind), lambda: kept.stand("g", UP, kind, least))
            for kind in ("slow", "all"):
                for least in (2, 1, 3, None):
                    self.check_raises(kept, Unfit(), lambda: kept.stand("g", UP, kind, least))
            for kind in KINDS:
                for least in ODD_VALUES + (1, 3, 0, -2, "2", (2,), [2], 2 + HUGE, True):
                    self.check_raises(kept, Unfit(), lambda: kept.stand("g", UP, kind, least))
                if full:
                    self.check_raises(kept, TooMany(6), lambda: kept.stand("g", UP, kind, 2))

    def test_six_and_seven(self):
        kept = Kept(DUO)
        for name in "fedcba":
            kept.stand(name, UP, "shift", 2)
        self.check_raises(kept, TooMany(6), lambda: kept.stand("g", UP, "shift", 2))
        self.assertIsNone(kept.drop("c"))
        self.assertEqual(kept.stand("g", UP, "shift", 2), places(DUO, UP, "shift", 2))
        self.check_raises(kept, TooMany(6), lambda: kept.stand("c", UP, "shift", 2))
        kept.put((4, 64, 0, 1))
        self.assertEqual([name for _, _, name, _ in kept.news(0)], ["a", "b", "d", "e", "f", "g"])

    def test_searches_are_no_edits(self):
        kept = Kept(DUO)
        before = state_of(kept)
        kept.stand("up", UP, "both", 2)
        kept.places("up")
        kept.closed()
        kept.news(0)
        kept.drop("up")
        self.assertTrue(same(state_of(kept), before))

    def test_dropped_and_begun_anew(self):
        kept = Kept(DUO)
        kept.stand("up", UP, "shift", 2)
        kept.put((4, 64, 0, 1))
        self.assertEqual(len(kept.news(0)), 1)
        kept.drop("up")
        self.assertEqual(kept.news(0), ())
        down = ((0, 0), (2, -2))
        self.assertEqual(kept.stand("up", down, "shift", 2), ())
        self.assertEqual((kept.news(0), kept.places("up")), ((), ()))
        kept.put((6, 62, 0, 1))
        self.assertEqual(kept.news(0), (("come", 2, "up", ((1, 1), (4, 1), 1, 64)),))
        self.assertEqual(kept.places("up"), places(kept.score, down, "shift", 2))

    def test_order_of_news(self):
        kept = Kept(((2, 62, 0, 1),))
        for name in ("zz", "b", "ab"):
            kept.stand(name, UP, "flip", 2)
        kept.put((4, 64, 0, 1))
        kept.put((0, 60, 0, 1))
        kept.cut((2, 62, 0, 1))
        news = kept.news(0)
        self.assertEqual(news, tuple(sorted(news, key=lambda event: (event[1], event[2], event[0], event[3]))))
        self.assertEqual([event[:3] for event in news][:3], [("come", 1, "ab"), ("come", 1, "b"), ("come", 1, "zz")])
        for since in range(4):
            self.assertEqual(kept.news(since), tuple([event for event in news if event[1] > since]))
        self.assertEqual(kept.news(3), ())

    def test_come_ahead_of_gone(self):
        # No edit brings both words for one search, but the order is by name first.
        kept = Kept(DUO)
        kept.stand("b", UP, "shift", 2)
        kept.stand("a", UP, "shift", 2)
        kept.cut(DUO[0])
        kept.put(DUO[0])
        self.assertEqual([event[:3] for event in kept.news(0)],
                         [("gone", 1, "a"), ("gone", 1, "b"), ("come", 2, "a"), ("come", 2, "b")])

    def test_news_raises(self):
        kept = Kept(DUO)
        for edits in range(3):
            for since in ODD_VALUES + (edits + 1, edits + 2, -1, HUGE, -HUGE, True, False, "0", (0,), None):
                if type(since) is not int or not 0 <= since <= edits:
                    self.check_raises(kept, NoVersion(since), lambda: kept.news(since))
                else:
                    self.assertEqual(kept.news(since), ())
            kept.put((50 + edits, 60, 0, 1))

    def test_closed(self):
        kept = Kept(score_at([(onset, 60) for onset in JUST_300]))
        self.assertEqual(len(kept.closed()), 300)
        more = Kept(score_at([(onset, 60) for onset in JUST_301]))
        self.check_raises(more, TooMany(300), more.closed)
        more.cut((1, 60, 0, 1))
        self.assertTrue(same(more.closed(), closed_pairs(more.score)))


if __name__ == "__main__":
    unittest.main()
