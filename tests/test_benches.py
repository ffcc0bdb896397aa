"""Benches: heardagain.benches, [K1] to [K4]."""

import inspect
import random
import unittest

from heardagain import errors
from heardagain.benches import Bench
from heardagain.errors import (BadBatch, BadPoints, BadScore, BadText, NoKind, NoName, NoNote, NothingToRedo, NothingToUndo,
                               NoVersion, Rejected, ScoreError, Taken, TooMany, TooManyEdits, Unfit)
from heardagain.kept import Kept
from heardagain.places import places
from heardagain.scores import score_error
from heardagain.shells import Shell
from tests.helper import (KINDS, NO_KINDS, ODD_VALUES, check_examples, flat, raised, same, same_error, score_at)
from tests.test_kept import NO_NAMES, NO_NOTES

EXAMPLES = """
    >>> from heardagain.benches import Bench
    >>> b, rise = Bench(), ((0, 0), (2, 2), (4, 4))
    >>> [b.add("air", ((0, 60, 0, 2), (2, 62, 0, 2), (4, 64, 0, 4))), b.add("bass", ()), len(b), list(b), b.version]
    [1, 2, 2, ['air', 'bass'], 2]
    >>> b.search(rise, "shift", 3)
    (('air', ((((1, 1), (0, 1), 1, 60), ((0, 0), (2, 2), (4, 4))),)),)
    >>> [b.put("bass", (0, 36, 1, 8)), b.shift("air", 4, -12), b["air"][0], b.search(rise, "shift", 3)[0][1][0][0]]
    [3, 4, (4, 48, 0, 2), ((1, 1), (4, 1), 1, 48)]
    >>> [b.batch((("cut", "bass", (0, 36, 1, 8)), ("drop", "bass"))), len(b), b.undo(), b["bass"], b.redo(), b.at(2) == b.at(3)]
    [5, 1, 4, ((0, 36, 1, 8),), 5, False]
    >>> b.put("air", (4, 48, 0, 7))
    raises Taken((4, 48, 0, 7))
    >>> b.shift("air", -5, 0)
    raises BadScore(('note', 0))
    >>> b.batch((("shift", "air", 1, 0), ("drop", "bass")))
    raises Rejected(1)
    >>> b.search(rise[:1], "shift", 2)
    raises BadPoints('few')
    >>> b.search(rise, "higher", 9)
    raises NoKind('higher')
"""

AIR = ((0, 60, 0, 2), (2, 62, 0, 2), (4, 64, 0, 4))
RISE = ((0, 0), (2, 2), (4, 4))
NOTE = (8, 70, 1, 2)
HUGE = 10 ** 399


def bench_of(*pairs):
    """Return a bench with these names and scores."""
    bench = Bench()
    for name, score in pairs:
        bench.add(name, score)
    return bench


def state_of(bench):
    """Return all that a bench tells of itself, with what comes if all is undone, and done again from where it is."""
    other = bench.copy()
    redone = []
    while not isinstance(raised(other.redo), ScoreError):
        redone.append(other.shelf)
    return (bench.shelf, bench.version, len(bench), list(bench), [bench.at(version) for version in range(bench.version + 1)],
            redone)


class BenchCase(unittest.TestCase):
    def check_raises(self, bench, wanted, call):
        """Check the error of a call, and that it changes nothing, neither what stands nor what was taken back."""
        before = state_of(bench)
        for _ in range(2):
            found = raised(call)
            self.assertTrue(same_error(found, wanted), (found, wanted))
            self.assertTrue(same(state_of(bench), before))

    def check_edit(self, bench, shelf, call):
        """Check that a call is an edit after which the shelf is as told."""
        before = [bench.at(version) for version in range(bench.version + 1)]
        version = bench.version
        self.assertTrue(same(call(), version + 1))
        self.assertTrue(same(bench.version, version + 1))
        self.assertTrue(same(bench.shelf, shelf))
        self.assertTrue(same(list(bench), [name for name, _ in shelf]))
        self.assertEqual(len(bench), len(shelf))
        for name, score in shelf:
            self.assertIsNone(score_error(score))
            self.assertTrue(same(bench[name], score))
        self.assertTrue(same([bench.at(version) for version in range(bench.version + 1)], before + [shelf]))
        self.assertTrue(same_error(raised(bench.redo), NothingToRedo()))


class ExamplesTest(unittest.TestCase):
    def test_examples(self):
        self.assertEqual(check_examples(self, EXAMPLES), 9)


class ShelfTest(BenchCase):
    def test_empty(self):
        bench = Bench()
        self.assertTrue(same(state_of(bench), ((), 0, 0, [], [()], [])))
        for name in NO_NAMES + ("air", 0, True):
            self.check_raises(bench, NoName(name), lambda: bench[name])

    def test_names_in_order(self):
        bench = bench_of(("b", AIR), ("ab", ()), ("a", AIR[:1]), ("z", AIR[1:]))
        self.assertEqual(list(bench), ["a", "ab", "b", "z"])
        self.assertEqual([name for name in bench], ["a", "ab", "b", "z"])
        self.assertEqual(tuple(bench), ("a", "ab", "b", "z"))
        self.assertEqual(bench.shelf, (("a", AIR[:1]), ("ab", ()), ("b", AIR), ("z", AIR[1:])))
        for name in NO_NAMES + ("c", "aa", "A", "a ", ("a", AIR[:1])):
            self.check_raises(bench, NoName(name), lambda: bench[name])
        self.assertTrue("ab" in bench and "c" not in bench)

    def test_properties_can_only_be_read(self):
        bench = bench_of(("a", AIR))
        for name, value in (("shelf", ()), ("version", 0)):
            with self.assertRaises(AttributeError):
                setattr(bench, name, value)
            with self.assertRaises(AttributeError):
                delattr(bench, name)
        self.assertEqual((bench.shelf, bench.version), ((("a", AIR),), 1))

    def test_methods_and_arguments(self):
        for name, arguments in (("search", ["figure", "kind", "least"]), ("add", ["name", "score"]), ("drop", ["name"]),
                                ("put", ["name", "note"]), ("cut", ["name", "note"]), ("shift", ["name", "later", "higher"]),
                                ("batch", ["edits"]), ("undo", []), ("redo", []), ("at", ["version"]), ("copy", []),
                                ("attempt", ["work"])):
            self.assertEqual(list(inspect.signature(vars(Bench)[name]).parameters)[1:], arguments)
        bench = Bench()
        told = [bench.add(name="a", score=AIR), bench.put(name="a", note=NOTE), bench.cut(name="a", note=NOTE),
                bench.shift(name="a", later=1, higher=2), bench.batch(edits=(("drop", "a"),)), bench.at(version=0),
                bench.attempt(work=len), bench.undo(), bench.search(figure=RISE, kind="shift", least=3)[0][0],
                bench.drop(name="a")]
        self.assertEqual(told, [1, 2, 3, 4, 5, (), 0, 4, "a", 5])

    def test_what_is_returned_does_not_change(self):
        bench = bench_of(("a", AIR), ("b", ()))
        told = [bench.shelf, bench.at(1), bench["a"], bench.search(RISE, "shift", 2)]
        before = repr(told)
        bench.put("a", NOTE)
        bench.shift("a", 1, 1)
        bench.drop("b")
        bench.undo()
        self.assertEqual(repr(told), before)


class SearchTest(BenchCase):
    def test_found(self):
        bench = bench_of(("b", AIR), ("a", tuple([(x + 3, y - 1, 2, 5) for x, y, _, _ in AIR])), ("none", ()), ("c", AIR[:2]))
        for kind in KINDS:
            for least in (2, 3):
                wanted = tuple([(name, places(score, RISE, kind, least)) for name, score in bench.shelf
                                if places(score, RISE, kind, least)])
                before = state_of(bench)
                self.assertTrue(same(bench.search(RISE, kind, least), wanted))
                self.assertTrue(same(bench.search(RISE, kind, least), wanted))
                self.assertTrue(same(state_of(bench), before))
                self.assertEqual([name for name, _ in wanted], ["a", "b", "c"][:5 - least])
        self.assertEqual(bench.search(((0, 0), (1, 50)), "shift", 2), ())

    def test_errors(self):
        for bench in (Bench(), bench_of(("a", AIR)), bench_of(("a", score_at(flat(60))))):
            for figure, error in (([], "form"), (RISE[:1], "few"), ((), "few"), (RISE[::-1], ("order", 1)), (None, "form"),
                                  (((0, 0), (0, 3)), "chord"), (tuple(flat(13)), "many"), (((0, 0), (1, True)), ("point", 1))):
                for kind in ("shift", "fast", None):
                    for least in (2, 9, None):
                        self.check_raises(bench, BadPoints(error), lambda: bench.search(figure, kind, least))
            for kind in NO_KINDS:
                for least in (2, 4, None):
                    self.check_raises(bench, NoKind(kind), lambda: bench.search(RISE, kind, least))
            for least in ODD_VALUES + (1, 4, -2, "2", True, HUGE, (2,)):
                for kind in KINDS:
                    self.check_raises(bench, Unfit(), lambda: bench.search(RISE, kind, least))

    def test_too_many_places(self):
        bench = bench_of(("a", AIR), ("crowd", score_at(flat(60))))
        self.check_raises(bench, TooMany(2000), lambda: bench.search(tuple(flat(12)), "all", 2))
        self.check_raises(bench, Unfit(), lambda: bench.search(tuple(flat(12)), "all", 13))
        self.assertEqual(len(bench.search(tuple(flat(12)), "shift", 2)), 1)


class AddAndDropTest(BenchCase):
    def test_add(self):
        bench = Bench()
        for name, score in (("b", AIR), ("a", ()), ("abcdefgh", score_at(flat(60))), ("z", AIR[:1])):
            shelf = tuple(sorted(bench.shelf + ((name, score),)))
            self.check_edit(bench, shelf, lambda: bench.add(name, score))

    def test_order_of_errors_of_add(self):
        names = ("a", "b", "c", "d", "e", "f", "g", "h")
        for many in (0, 1, 7, 8):
            bench = bench_of(*[(name, AIR) for name in names[:many]])
            for name in NO_NAMES:
                for score in (AIR, None, [], AIR[::-1]):
                    self.check_raises(bench, Unfit(), lambda: bench.add(name, score))
            for name in ("a", "i"):
                for score in ODD_VALUES + (AIR[::-1], list(AIR), AIR + (None,), score_at(flat(61)), ((0, 60, True, 1),)):
                    if score != ():
                        wanted = BadScore(score_error(score))
                        self.check_raises(bench, wanted, lambda: bench.add(name, score))
            for name in names[:many]:
                self.check_raises(bench, Taken(name), lambda: bench.add(name, AIR))
                self.check_raises(bench, Taken(name), lambda: bench.add(name, ()))
            if many == 8:
                self.check_raises(bench, TooMany(8), lambda: bench.add("i", AIR))
            else:
                self.check_edit(bench, bench.shelf + (("i", AIR),), lambda: bench.add("i", AIR))

    def test_room_again(self):
        bench = bench_of(*[(name, ()) for name in "hgfedcba"])
        self.check_raises(bench, TooMany(8), lambda: bench.add("i", AIR))
        bench.drop("d")
        self.check_edit(bench, tuple([(name, ()) for name in "abcefgh"]) + (("i", AIR),), lambda: bench.add("i", AIR))
        self.check_raises(bench, TooMany(8), lambda: bench.add("d", AIR))

    def test_drop(self):
        bench = bench_of(("a", AIR), ("b", ()), ("c", AIR))
        for name in NO_NAMES + ("d", "A", "", "ab", True, 0):
            self.check_raises(bench, NoName(name), lambda: bench.drop(name))
        self.check_edit(bench, (("a", AIR), ("c", AIR)), lambda: bench.drop("b"))
        self.check_raises(bench, NoName("b"), lambda: bench.drop("b"))
        self.check_edit(bench, (("c", AIR),), lambda: bench.drop("a"))
        self.check_edit(bench, (), lambda: bench.drop("c"))
        self.check_raises(bench, NoName("c"), lambda: bench.drop("c"))


class NotesTest(BenchCase):
    def test_put(self):
        bench = bench_of(("a", AIR), ("b", AIR))
        score = AIR
        for note in (NOTE, (0, 60, 1, 2), (0, 0, 0, 1), (9999, 127, 7, 999), (2, 61, 0, 1)):
            score = tuple(sorted(score + (note,)))
            self.check_edit(bench, (("a", score), ("b", AIR)), lambda: bench.put("a", note))

    def test_order_of_errors_of_put(self):
        bench = bench_of(("a", AIR), ("full", score_at(flat(60))))
        for name in NO_NAMES + ("b",):
            for note in (NOTE, None, AIR[0]):
                self.check_raises(bench, NoName(name), lambda: bench.put(name, note))
        for note in NO_NOTES:
            for name in ("a", "full"):
                self.check_raises(bench, NoNote(note), lambda: bench.put(name, note))
        for name in ("a", "full"):
            for note in bench[name]:
                for length in (1, note[3], 999):
                    taken = note[:3] + (length,)
                    self.check_raises(bench, Taken(taken), lambda: bench.put(name, taken))
        for note in ((60, 60, 0, 1), (0, 60, 1, 1), (0, 61, 0, 1)):
            self.check_raises(bench, TooMany(60), lambda: bench.put("full", note))

    def test_60_notes(self):
        bench = bench_of(("a", score_at(flat(59))))
        self.check_edit(bench, (("a", score_at(flat(60))),), lambda: bench.put("a", (59, 60, 0, 1)))
        self.check_raises(bench, TooMany(60), lambda: bench.put("a", (60, 60, 0, 1)))

    def test_cut(self):
        bench = bench_of(("a", AIR), ("b", AIR))
        self.check_edit(bench, (("a", AIR), ("b", (AIR[0], AIR[2]))), lambda: bench.cut("b", AIR[1]))
        self.check_edit(bench, (("a", AIR), ("b", AIR[2:])), lambda: bench.cut("b", AIR[0]))
        self.check_edit(bench, (("a", AIR), ("b", ())), lambda: bench.cut("b", AIR[2]))
        self.check_raises(bench, NoNote(AIR[2]), lambda: bench.cut("b", AIR[2]))

    def test_errors_of_cut(self):
        bench = bench_of(("a", AIR), ("b", ()), ("c", ((1, 1, 1, 1), (1, 2, 0, 1))))
        for name in NO_NAMES + ("d",):
            for note in (NOTE, None, AIR[0]):
                self.check_raises(bench, NoName(name), lambda: bench.cut(name, note))
        for note in NO_NOTES + (NOTE, (0, 60, 0, 1), (0, 60, 1, 2), (0, 61, 0, 2), (1, 60, 0, 2), list(AIR[0]), (True, 1, 1, 1),
                                (1, True, 1, 1), (1, 1, True, 1), (1, 1, 1, True), (1, 2, False, 1)):
            for name in ("a", "b", "c"):
                self.check_raises(bench, NoNote(note), lambda: bench.cut(name, note))

    def test_shift(self):
        bench = bench_of(("a", AIR), ("b", AIR))
        self.check_edit(bench, (("a", ((4, 48, 0, 2), (6, 50, 0, 2), (8, 52, 0, 4))), ("b", AIR)),
                        lambda: bench.shift("a", 4, -12))
        self.check_edit(bench, (("a", AIR), ("b", AIR)), lambda: bench.shift("a", -4, 12))
        # Also if it leaves the shelf as it was.
        self.check_edit(bench, (("a", AIR), ("b", AIR)), lambda: bench.shift("b", 0, 0))
        far = tuple([(x + 9995, y + 63, voice, length) for x, y, voice, length in AIR])
        self.check_edit(bench, (("a", far), ("b", AIR)), lambda: bench.shift("a", 9995, 63))
        self.check_raises(bench, BadScore(("note", 2)), lambda: bench.shift("a", 1, 0))
        self.check_raises(bench, BadScore(("note", 2)), lambda: bench.shift("a", 0, 1))
        self.check_edit(bench, (("a", AIR), ("b", AIR)), lambda: bench.shift("a", -9995, -63))
        self.check_raises(bench, BadScore(("note", 0)), lambda: bench.shift("a", -1, 0))
        self.check_edit(bench, (("a", tuple([(x, y - 60, voice, length) for x, y, voice, length in AIR])), ("b", AIR)),
                        lambda: bench.shift("a", 0, -60))

    def test_errors_of_shift(self):
        bench = bench_of(("a", AIR), ("b", ()))
        for name in NO_NAMES + ("c",):
            for rest in ((1, 1), (None, "1"), (HUGE, 0)):
                self.check_raises(bench, NoName(name), lambda: bench.shift(name, *rest))
        for value in ODD_VALUES + ("1", (1,), True, False, None):
            if type(value) is not int:
                for name in ("a", "b"):
                    for other in (0, HUGE, value):
                        self.check_raises(bench, Unfit(), lambda: bench.shift(name, value, other))
                        self.check_raises(bench, Unfit(), lambda: bench.shift(name, other, value))
        for later, higher, place in ((HUGE, 0, 0), (-HUGE, 0, 0), (0, HUGE, 0), (0, -HUGE, 0), (9996, 0, 2), (9998, 0, 1),
                                     (10000, 0, 0), (0, 64, 2), (0, 66, 1), (0, 68, 0), (-1, 0, 0), (0, -61, 0), (9996, 68, 0),
                                     (9996, 66, 1)):
            self.check_raises(bench, BadScore(("note", place)), lambda: bench.shift("a", later, higher))
        # A score without notes can be shifted however far.
        self.check_edit(bench, (("a", AIR), ("b", ())), lambda: bench.shift("b", HUGE, -HUGE))


class BatchTest(BenchCase):
    def test_as_one_edit(self):
        bench = bench_of(("a", AIR))
        self.check_edit(bench, (("a", AIR),), lambda: bench.batch(()))
        self.check_edit(bench, (("b", ((1, 62, 0, 2), NOTE)),), lambda: bench.batch(
            (("add", "b", AIR[:1]), ("shift", "b", 1, 2), ("drop", "a"), ("put", "b", NOTE), ("put", "b", (3, 3, 3, 3)),
             ("cut", "b", (3, 3, 3, 3)))))
        self.check_raises(bench, NoName("a"), lambda: bench["a"])
        self.assertEqual(bench.undo(), 2)
        self.assertEqual(bench.shelf, (("a", AIR),))
        self.assertEqual(bench.redo(), 3)
        self.assertEqual(list(bench), ["b"])

    def test_12_and_13_edits(self):
        bench = bench_of(("a", AIR))
        for many in range(13):
            score = tuple([(x + many, y, voice, length) for x, y, voice, length in bench["a"]])
            self.check_edit(bench, (("a", score),), lambda: bench.batch((("shift", "a", 1, 0),) * many))
        for many in (13, 14, 100):
            self.check_raises(bench, BadBatch(), lambda: bench.batch((("shift", "a", 1, 0),) * many))
            self.check_raises(bench, BadBatch(), lambda: bench.batch((("drop", "none"),) * many))

    def test_bad_batches(self):
        bench = bench_of(("a", AIR))
        right = ("shift", "a", 1, 0)
        for value in ODD_VALUES + ([], [right], {0: right}, right, "shift", None, 7):
            if value != ():
                self.check_raises(bench, BadBatch(), lambda: bench.batch(value))
        for edit in ODD_VALUES + (("undo",), ("redo",), ("batch", ()), ("batch", (right,)), ("Add", "b", ()), ("add",),
                                  ("add", "b"), ("add", "b", (), ()), ("drop",), ("drop", "a", "a"), ("put", "a"),
                                  ("put", "a", NOTE, NOTE), ("put",), ("cut", "a"), ("cut", "a", NOTE, NOTE), ("cut",),
                                  ("shift", "a", 1), ("shift", "a", 1, 0, 0), ("shift",), list(right), ["drop", "a"], (),
                                  ("search", RISE, "shift", 2), ("at", 0), ("copy",), ("attempt", None), ("", "a"),
                                  (None, "a"), (("drop",), "a"), (["drop"], "a"), ({}, "a"), (True, "a"), "drop a", (b"drop", "a"),
                                  ("added", "b", ()), ("drop ", "a")):
            for edits in ((edit,), (right, edit), (edit, right), (("drop", "none"), edit), (edit,) * 12):
                self.check_raises(bench, BadBatch(), lambda: bench.batch(edits))

    def test_rejected(self):
        bench = bench_of(("a", AIR), ("full", score_at(flat(60))))
        wrong = (("add", "a", ()), ("add", "A", ()), ("add", "b", None), ("add", None, None), ("drop", "b"), ("drop", None),
                 ("drop", []), ("put", "b", NOTE), ("put", "a", None), ("put", "a", AIR[0]), ("put", "full", NOTE),
                 ("cut", "b", NOTE), ("cut", "a", NOTE), ("cut", "a", {}), ("shift", "b", 0, 0), ("shift", "a", None, 0),
                 ("shift", "a", 0, True), ("shift", "a", -1, 0), ("shift", [], 0, 0))
        for edit in wrong:
            for place in (0, 1, 5, 11):
                edits = (("shift", "a", 1, 0),) * place
                if edit == ("shift", "a", -1, 0) or edit == ("put", "a", AIR[0]):
                    # These would not be wrong behind a shift.
                    edits = (("shift", "full", 1, 0),) * place
                self.check_raises(bench, Rejected(place), lambda: bench.batch(edits + (edit,)))
                self.check_raises(bench, Rejected(place), lambda: bench.batch(edits + (edit,) * (12 - place)))
        # What a part has done counts for the next ones.
        self.check_raises(bench, Rejected(1), lambda: bench.batch((("drop", "a"), ("drop", "a"))))
        self.check_raises(bench, Rejected(1), lambda: bench.batch((("add", "b", ()), ("add", "b", ()))))
        self.check_raises(bench, Rejected(6), lambda: bench.batch(tuple([("add", name, ()) for name in "bcdefghi"])))
        self.check_raises(bench, Rejected(1), lambda: bench.batch((("cut", "a", AIR[0]), ("cut", "a", AIR[0]))))

    def test_at_39_and_40_edits(self):
        bench = bench_of(("a", AIR))
        for _ in range(38):
            bench.shift("a", 0, 0)
        self.assertEqual(bench.version, 39)
        score = tuple([(x + 12, y, voice, length) for x, y, voice, length in AIR])
        twelve = (("shift", "a", 1, 0),) * 12
        self.check_edit(bench, (("a", score),), lambda: bench.batch(twelve))
        for edits in ((), twelve, (("drop", "a"),)):
            self.check_raises(bench, TooManyEdits(), lambda: bench.batch(edits))
        self.check_raises(bench, BadBatch(), lambda: bench.batch(twelve * 2))
        self.check_raises(bench, BadBatch(), lambda: bench.batch(None))
        self.check_raises(bench, Rejected(1), lambda: bench.batch(twelve[:1] + (("drop", "b"),)))
        bench.undo()
        self.check_edit(bench, (), lambda: bench.batch((("drop", "a"),)))


class FortyTest(BenchCase):
    def test_40_edits_and_one_more(self):
        bench = bench_of(("a", AIR), ("full", score_at(flat(60))))
        for _ in range(38):
            bench.shift("a", 0, 0)
        self.assertEqual(bench.version, 40)
        for call in (lambda: bench.add("b", ()), lambda: bench.drop("a"), lambda: bench.put("a", NOTE),
                     lambda: bench.cut("a", AIR[0]), lambda: bench.shift("a", 0, 0), lambda: bench.shift("a", 1, 1),
                     lambda: bench.batch(())):
            self.check_raises(bench, TooManyEdits(), call)
        # All other errors come ahead of this one.
        for wanted, call in ((Unfit(), lambda: bench.add("B", ())), (BadScore("form"), lambda: bench.add("b", [])),
                             (Taken("a"), lambda: bench.add("a", ())), (NoName("b"), lambda: bench.drop("b")),
                             (NoName("b"), lambda: bench.put("b", NOTE)), (NoNote(None), lambda: bench.put("a", None)),
                             (Taken(AIR[0]), lambda: bench.put("a", AIR[0])), (TooMany(60), lambda: bench.put("full", NOTE)),
                             (NoName("b"), lambda: bench.cut("b", NOTE)), (NoNote(NOTE), lambda: bench.cut("a", NOTE)),
                             (NoName("b"), lambda: bench.shift("b", 0, 0)), (Unfit(), lambda: bench.shift("a", 0, "")),
                             (BadScore(("note", 0)), lambda: bench.shift("a", -1, 0))):
            self.check_raises(bench, wanted, call)
        self.assertEqual(bench.undo(), 39)
        self.check_edit(bench, bench.shelf[1:], lambda: bench.drop("a"))
        self.check_raises(bench, TooManyEdits(), lambda: bench.drop("full"))

    def test_8_names_and_40_edits(self):
        bench = bench_of(*[(name, ()) for name in "abcdefgh"])
        for _ in range(32):
            bench.shift("a", 0, 0)
        self.check_raises(bench, TooMany(8), lambda: bench.add("i", ()))
        self.check_raises(bench, TooManyEdits(), lambda: bench.drop("a"))

    def test_redo_up_to_40(self):
        bench = Bench()
        for name in "ab" * 10:
            bench.add(name, ())
            bench.drop(name)
        self.assertEqual(bench.version, 40)
        self.check_raises(bench, TooManyEdits(), lambda: bench.add("a", ()))
        for version in range(39, -1, -1):
            self.assertEqual(bench.undo(), version)
        self.check_raises(bench, NothingToUndo(), bench.undo)
        for version in range(1, 41):
            self.assertEqual(bench.redo(), version)
        self.check_raises(bench, NothingToRedo(), bench.redo)
        self.check_raises(bench, TooManyEdits(), lambda: bench.add("a", ()))


class UndoTest(BenchCase):
    def test_both_ends(self):
        bench = Bench()
        self.check_raises(bench, NothingToUndo(), bench.undo)
        self.check_raises(bench, NothingToRedo(), bench.redo)
        shelves = [()]
        for name in "cab":
            bench.add(name, AIR)
            shelves.append(bench.shelf)
        self.check_raises(bench, NothingToRedo(), bench.redo)
        for version in (2, 1, 0):
            self.assertEqual((bench.undo(), bench.version, bench.shelf), (version, version, shelves[version]))
            self.assertEqual((len(bench), list(bench)), (version, [name for name, _ in shelves[version]]))
            self.assertEqual([bench.at(at) for at in range(version + 1)], shelves[:version + 1])
            self.check_raises(bench, NoVersion(version + 1), lambda: bench.at(version + 1))
        self.check_raises(bench, NothingToUndo(), bench.undo)
        for version in (1, 2, 3):
            self.assertEqual((bench.redo(), bench.version, bench.shelf), (version, version, shelves[version]))
        self.check_raises(bench, NothingToRedo(), bench.redo)

    def test_an_edit_between(self):
        bench = bench_of(("a", AIR), ("b", AIR), ("c", AIR))
        bench.undo()
        bench.undo()
        # What raises forgets nothing.
        self.check_raises(bench, Taken("a"), lambda: bench.add("a", ()))
        self.check_raises(bench, Rejected(0), lambda: bench.batch((("drop", "b"),)))
        self.assertEqual(bench.redo(), 2)
        bench.undo()
        self.check_edit(bench, (("a", AIR), ("d", ())), lambda: bench.add("d", ()))
        self.check_raises(bench, NothingToRedo(), bench.redo)
        self.assertEqual((bench.undo(), bench.redo(), bench.shelf), (1, 2, (("a", AIR), ("d", ()))))

    def test_an_edit_that_leaves_the_shelf_as_it_was(self):
        bench = bench_of(("a", AIR), ("b", AIR))
        bench.undo()
        self.check_edit(bench, (("a", AIR),), lambda: bench.shift("a", 0, 0))
        self.check_raises(bench, NothingToRedo(), bench.redo)

    def test_at(self):
        bench = bench_of(("a", AIR), ("b", ()))
        bench.drop("a")
        for version, shelf in enumerate(((), (("a", AIR),), (("a", AIR), ("b", ())), (("b", ()),))):
            self.assertTrue(same(bench.at(version), shelf))
        for version in ODD_VALUES + (4, -1, HUGE, "1", (1,), True, False, None):
            if type(version) is not int or not 0 <= version <= 3:
                self.check_raises(bench, NoVersion(version), lambda: bench.at(version))

    def test_drawn_edits(self):
        for seed in range(30):
            self.go(random.Random(seed))

    def go(self, dice):
        """Do drawn edits, undos and redos beside a list of shelves."""
        bench, stood, undone = Bench(), [()], []
        for _ in range(60):
            way, name = dice.random(), dice.choice("abc")
            if way < 0.2:
                wanted = NothingToUndo() if len(stood) == 1 else len(stood) - 2
                found = raised(bench.undo)
                if len(stood) > 1:
                    undone.append(stood.pop())
            elif way < 0.35:
                wanted = len(stood) if undone else NothingToRedo()
                found = raised(bench.redo)
                if undone:
                    stood.append(undone.pop())
            else:
                scores = dict(stood[-1])
                if way < 0.6:
                    wanted, call = (Taken(name) if name in scores else None), lambda: bench.add(name, AIR)
                    scores.setdefault(name, AIR)
                elif way < 0.8:
                    wanted, call = (None if name in scores else NoName(name)), lambda: bench.shift(name, 1, 0)
                    if name in scores:
                        scores[name] = tuple([(x + 1, y, voice, length) for x, y, voice, length in scores[name]])
                else:
                    wanted, call = (None if name in scores else NoName(name)), lambda: bench.drop(name)
                    scores.pop(name, None)
                if wanted is None:
                    wanted = len(stood) if len(stood) < 41 else TooManyEdits()
                    if len(stood) < 41:
                        stood.append(tuple(sorted(scores.items())))
                        undone = []
                found = raised(call)
            right = same_error if isinstance(wanted, ScoreError) else same
            self.assertTrue(right(found, wanted), (found, wanted))
            self.assertTrue(same([bench.at(version) for version in range(bench.version + 1)], stood))
            self.assertTrue(same(state_of(bench)[5], undone[::-1]))


class CopyAndEqualTest(BenchCase):
    def test_copies(self):
        bench = bench_of(("a", AIR), ("b", ()), ("c", AIR))
        bench.undo()
        other = bench.copy()
        self.assertIs(type(other), Bench)
        self.assertTrue(same(state_of(other), state_of(bench)))
        kept = state_of(bench)
        other.redo()
        other.put("b", NOTE)
        other.drop("a")
        self.assertTrue(same(state_of(bench), kept))
        further = state_of(other)
        bench.undo()
        bench.add("z", ())
        self.assertTrue(same(state_of(other), further))
        self.assertEqual((bench.undo(), other.undo()), (1, 4))

    def test_copies_undo_and_redo(self):
        bench = bench_of(("a", AIR), ("b", ()))
        bench.undo()
        other = bench.copy()
        self.assertEqual((other.redo(), other.undo(), other.undo()), (2, 1, 0))
        self.assertEqual((bench.version, bench.redo()), (1, 2))
        self.assertEqual((other.redo(), other.redo()), (1, 2))

    def test_equal(self):
        one, two = bench_of(("a", AIR), ("b", ())), bench_of(("b", ()), ("c", ()), ("a", AIR[:1]))
        self.assertFalse(one == two)
        self.assertTrue(one != two)
        two.drop("c")
        two.batch((("put", "a", AIR[1]), ("put", "a", AIR[2])))
        self.assertTrue(one == two and two == one)
        self.assertFalse(one != two or two != one)
        self.assertTrue(one == one.copy() and not one != one.copy())
        two.undo()
        self.assertFalse(one == two)
        self.assertTrue(Bench() == Bench() and not Bench() != Bench())
        self.assertEqual(type(one == two), bool)

    def test_equal_to_nothing_else(self):
        bench = bench_of(("a", AIR))
        for value in ODD_VALUES + (bench.shelf, list(bench), ["a"], dict(bench.shelf), Kept(AIR), Shell(), bench.copy, Bench,
                                   errors.Unfit()):
            self.assertFalse(bench == value)
            self.assertTrue(bench != value)
            self.assertFalse(Bench() == value)
            self.assertTrue(Bench() != value)
            self.assertFalse(value == bench)


class AttemptTest(BenchCase):
    def test_result(self):
        bench = Bench()

        def work(own):
            self.assertIs(own, bench)
            own.add("a", AIR)
            return own.add("b", ()), own.shelf

        self.assertEqual(bench.attempt(work), (2, (("a", AIR), ("b", ()))))
        self.assertEqual(bench.version, 2)
        for value in (None, False, 0, [], "x"):
            self.assertIs(bench.attempt(lambda own: value), value)
        self.assertEqual((bench.undo(), bench.undo()), (1, 0))

    def test_score_errors(self):
        bench = bench_of(("a", AIR), ("b", ()), ("c", ()))
        bench.undo()
        before = state_of(bench)

        def raises(error):
            def work(own):
                own.redo()
                own.undo()
                own.undo()
                own.add("z", AIR)
                own.batch((("drop", "a"),))
                raise error
            return work

        class Own(ScoreError):
            pass

        for error in (Unfit(), BadText(), NoName("x"), ScoreError("x"), Own("x"), TooMany(3), NothingToUndo()):
            with self.assertRaises(ScoreError) as caught:
                bench.attempt(raises(error))
            self.assertIs(caught.exception, error)
            self.assertTrue(same(state_of(bench), before))
        # Of whatever call: of the bench, of another one, of a function.
        for last in (lambda own: own.drop("none"), lambda own: Bench().undo(), lambda own: places((), RISE, "fast", 2),
                     lambda own: own["none"], lambda own: own.at(99), lambda own: own.search(RISE, "fast", 2)):
            def work(own):
                own.add("q", AIR)
                return last(own)
            with self.assertRaises(ScoreError):
                bench.attempt(work)
            self.assertTrue(same(state_of(bench), before))
        self.assertEqual(bench.redo(), 3)

    def test_other_errors(self):
        for error in (ValueError("x"), KeyError("x"), TypeError(), ZeroDivisionError(), RuntimeError(), IndexError()):
            bench = bench_of(("a", AIR), ("b", ()))
            bench.undo()

            def work(own):
                own.add("z", ())
                raise error

            with self.assertRaises(type(error)) as caught:
                bench.attempt(work)
            self.assertIs(caught.exception, error)
            self.assertEqual((bench.version, list(bench)), (2, ["a", "z"]))
            self.check_raises(bench, NothingToRedo(), bench.redo)

    def test_errors_that_work_catches(self):
        bench = bench_of(("a", AIR))

        def work(own):
            own.add("b", ())
            try:
                own.add("b", ())
            except Taken:
                return own.add("c", ())
            return None

        self.assertEqual(bench.attempt(work), 3)
        self.assertEqual(list(bench), ["a", "b", "c"])

    def test_one_within_another_one(self):
        bench = bench_of(("a", AIR))

        def inner(own):
            own.add("c", ())
            own.drop("none")

        def outer(own):
            own.add("b", ())
            self.assertTrue(same_error(raised(lambda: own.attempt(inner)), NoName("none")))
            self.assertEqual(list(own), ["a", "b"])
            return own.add("d", ())

        def failing(own):
            own.attempt(lambda same_one: same_one.add("e", ()))
            self.assertEqual(list(own), ["a", "b", "d", "e"])
            own.attempt(inner)

        self.assertEqual(bench.attempt(outer), 3)
        self.assertEqual(list(bench), ["a", "b", "d"])
        self.check_raises(bench, NoName("none"), lambda: bench.attempt(failing))
        self.assertEqual(list(bench), ["a", "b", "d"])

    def test_undo_and_redo_within(self):
        bench = bench_of(("a", AIR), ("b", ()), ("c", ()))

        def work(own):
            own.undo()
            own.undo()
            own.redo()
            return own.version

        self.assertEqual(bench.attempt(work), 2)
        self.assertEqual((bench.version, bench.redo()), (2, 3))

        def down(own):
            while True:
                own.undo()

        self.check_raises(bench, NothingToUndo(), lambda: bench.attempt(down))
        self.assertEqual(bench.version, 3)

    def test_no_edit(self):
        bench = bench_of(("a", AIR), ("b", ()))
        bench.undo()
        before = state_of(bench)
        self.assertIsNone(bench.attempt(lambda own: None))
        self.assertTrue(same(state_of(bench), before))

    def test_up_to_40_edits(self):
        bench = Bench()

        def work(own):
            while True:
                own.batch(())

        self.check_raises(bench, TooManyEdits(), lambda: bench.attempt(work))
        self.assertEqual(bench.version, 0)

    def test_copies_within(self):
        bench = bench_of(("a", AIR))
        kept = []

        def work(own):
            own.add("b", ())
            kept.append(own.copy())
            own.drop("none")

        self.check_raises(bench, NoName("none"), lambda: bench.attempt(work))
        self.assertEqual(list(kept[0]), ["a", "b"])
        self.assertEqual(list(bench), ["a"])


if __name__ == "__main__":
    unittest.main()
