"""Shells: heardagain.shells, [K5]."""

import inspect
import unittest

from heardagain.benches import Bench
from heardagain.closed import closed_pairs
from heardagain.errors import ScoreError
from heardagain.fronts import front
from heardagain.scoretexts import points_text, read_points, read_score, score_text
from heardagain.shells import Shell
from tests.helper import JUST_300, JUST_301, ODD_VALUES, check_examples, flat, raised, same, score_at

EXAMPLES = """
    >>> from heardagain.shells import Shell
    >>> s = Shell()
    >>> [s.say("names"), s.say("score air score / 0 60 0 2 / 2 62 0 2 / 4 64 0 4"), s.say("names"), s.say("find shift 3 0,0 2,2 4,4"), s.say("find shift 2 0,0 2,2 4,4")]
    ['none', 'version 1', 'air', 'air:1', 'air:3']
    >>> [s.say("front air"), s.say("pairs air"), s.say("put air 8 60 0 4"), s.say("show air"), s.say("undo"), s.say("undo"), s.say("undo")]
    ['2:2 3:1', '2', 'version 2', 'score / 0 60 0 2 / 2 62 0 2 / 4 64 0 4 / 8 60 0 4', 'version 1', 'version 0', 'error NothingToUndo']
    >>> [s.say("show air"), s.say("score air score / 0 60"), s.say("find up 2 0,0 1,1"), s.say("find shift 2 0,0"), s.say("drop"), s.say("drop "), s.say("shift air 1"), s.say("score AIR score"), s.say(7)]
    ['error NoName', 'error BadText', 'error NoKind', 'error BadPoints', 'what', 'what', 'what', 'error Unfit', 'what']
"""

AIR = ((0, 60, 0, 2), (2, 62, 0, 2), (4, 64, 0, 4))
AIR_TEXT = "score / 0 60 0 2 / 2 62 0 2 / 4 64 0 4"


def shell_with(*pairs):
    """Return a shell with these names and scores."""
    shell = Shell()
    for name, score in pairs:
        assert shell.say("score " + name + " " + score_text(score).replace("\n", " / ")).startswith("version ")
    return shell


def shelf_of(shell):
    """Return what a shell shows of all its names, and how it goes back and forth."""
    names = shell.say("names")
    shown = [shell.say("show " + name) for name in names.split(" ")]
    steps = 0
    while not shell.say("redo").startswith("error"):
        steps += 1
    for _ in range(steps):
        shell.say("undo")
    return names, shown, steps


class ShellCase(unittest.TestCase):
    def check(self, shell, line, wanted):
        answer = shell.say(line)
        self.assertTrue(same(answer, wanted), (line, answer, wanted))

    def check_nothing(self, shell, line, wanted):
        """Check an answer to a line that changes nothing, twice."""
        before = shelf_of(shell)
        for _ in range(2):
            self.check(shell, line, wanted)
            self.assertEqual(shelf_of(shell), before)


class ExamplesTest(unittest.TestCase):
    def test_examples(self):
        self.assertEqual(check_examples(self, EXAMPLES), 3)


class EditsTest(ShellCase):
    def test_all_edits(self):
        shell = Shell()
        for line, wanted, shown in (
                ("score air " + AIR_TEXT, "version 1", AIR_TEXT),
                ("put air 8 60 0 4", "version 2", AIR_TEXT + " / 8 60 0 4"),
                ("cut air 0 60 0 2", "version 3", "score / 2 62 0 2 / 4 64 0 4 / 8 60 0 4"),
                ("shift air -2 5", "version 4", "score / 0 67 0 2 / 2 69 0 4 / 6 65 0 4"),
                ("undo", "version 3", "score / 2 62 0 2 / 4 64 0 4 / 8 60 0 4"),
                ("redo", "version 4", "score / 0 67 0 2 / 2 69 0 4 / 6 65 0 4"),
                ("shift air 0 0", "version 5", "score / 0 67 0 2 / 2 69 0 4 / 6 65 0 4"),
                ("drop air", "version 6", "error NoName"), ("undo", "version 5", "score / 0 67 0 2 / 2 69 0 4 / 6 65 0 4"),
                ("score b score", "version 6", "score / 0 67 0 2 / 2 69 0 4 / 6 65 0 4")):
            self.check(shell, line, wanted)
            self.check(shell, "show air", shown)
        self.check(shell, "names", "air b")
        self.check(shell, "show b", "score")

    def test_names_of_errors(self):
        shell = shell_with(("air", AIR), ("b", ()), ("full", score_at(flat(60))))
        for line, wanted in (
                ("score air score", "Taken"), ("score air score x", "BadText"), ("score AIR score", "Unfit"),
                ("score ninelette score", "Unfit"), ("score a1 score", "Unfit"), ("score AIR score / 0", "BadText"),
                ("score air " + AIR_TEXT, "Taken"), ("score air ", "BadText"), ("score air  score", "BadText"),
                ("score c score ", "BadText"), ("score c score / ", "BadText"), ("score c score / 00 60 0 2", "BadText"),
                ("score c score / 4 64 0 1 / 2 62 0 1", "BadText"), ("score c SCORE", "BadText"), ("score c none", "BadText"),
                ("score c score/0 60 0 2", "BadText"), ("score c score /0 60 0 2", "BadText"),
                ("score c score / 0 60 0 2 /", "BadText"), ("score c score / 0 60 8 2", "BadText"),
                ("drop c", "NoName"), ("drop AIR", "NoName"), ("drop a\nb", "NoName"), ("drop air\n", "NoName"),
                ("put c 0 60 0 1", "NoName"), ("put air 0 60 0 1", "Taken"), ("put air 0 60 8 1", "NoNote"),
                ("put air 0 60 0 0", "NoNote"), ("put air -1 60 0 1", "NoNote"), ("put air 999999 60 0 1", "NoNote"),
                ("put c 999999 60 0 1", "NoName"), ("put full 99 60 0 1", "TooMany"),
                ("cut c 0 60 0 2", "NoName"), ("cut air 0 60 0 1", "NoNote"), ("cut air 0 60 0 999999", "NoNote"),
                ("cut air -999999 60 0 2", "NoNote"), ("shift c 0 0", "NoName"), ("shift air -1 0", "BadScore"),
                ("shift air 999999 0", "BadScore"), ("shift air 0 -999999", "BadScore"), ("shift air 0 64", "BadScore"),
                ("show c", "NoName"), ("show AIR", "NoName"), ("show air\n", "NoName"), ("front c", "NoName"),
                ("pairs c", "NoName"), ("find shift 2 ", "BadText"), ("find shift 2 x", "BadText"),
                ("find shift 2 0,0  1,1", "BadText"), ("find shift 2 0,0 1,1 ", "BadText"), ("find shift 2  0,0 1,1", "BadText"),
                ("find shift 2 0,0 0,0", "BadText"), ("find shift 2 1,1 0,0", "BadText"), ("find shift 2 00,0 1,1", "BadText"),
                ("find fast 9 x", "BadText"), ("find shift 2 none", "BadPoints"), ("find shift 2 0,0", "BadPoints"),
                ("find fast 9 0,0", "BadPoints"), ("find shift 2 0,0 0,1", "BadPoints"), ("find fast 9 0,0 1,1", "NoKind"),
                ("find Shift 2 0,0 1,1", "NoKind"), ("find shift\n 2 0,0 1,1", "NoKind"), ("find shift 1 0,0 1,1", "Unfit"),
                ("find shift 3 0,0 1,1", "Unfit"), ("find shift -2 0,0 1,1", "Unfit"), ("find shift 999999 0,0 1,1", "Unfit"),
                ("redo", "NothingToRedo")):
            self.check_nothing(shell, line, "error " + wanted)
        for version in (2, 1, 0):
            self.check(shell, "undo", f"version {version}")
        self.check_nothing(shell, "undo", "error NothingToUndo")

    def test_too_many(self):
        shell = shell_with(*[(name, ()) for name in "abcdefgh"])
        self.check_nothing(shell, "score i score", "error TooMany")
        for version in range(9, 41):
            self.check(shell, "shift a 0 0", f"version {version}")
        for line in ("shift a 0 0", "drop a", "put a 0 60 0 1"):
            self.check_nothing(shell, line, "error TooManyEdits")
        self.check_nothing(shell, "score i score", "error TooMany")
        self.check_nothing(shell, "score i scor", "error BadText")
        self.check(shell, "undo", "version 39")
        self.check(shell, "drop a", "version 40")
        self.check_nothing(shell, "score i score", "error TooManyEdits")

    def test_texts(self):
        # Each " / " stands for a line feed, and a line feed is a sign like another one.
        for text, wanted in (("score", "score"), (AIR_TEXT, AIR_TEXT), (AIR_TEXT.replace(" / ", "\n"), AIR_TEXT),
                             ("score\n0 60 0 2 / 2 62 0 2\n4 64 0 4", AIR_TEXT)):
            shell = Shell()
            self.check(shell, "score a " + text, "version 1")
            self.check(shell, "show a", wanted)
        for text in ("score / / 0 60 0 2", "score /  / 0 60 0 2", "score / \n0 60 0 2", "score / 0 60 0 2 / / ", "\nscore",
                     "score\n", "score\r\n0 60 0 2", " / ", "/", "score / 0\n60 0 2", "score / 0 / 60 0 2"):
            self.check_nothing(Shell(), "score a " + text, "error BadText")


class LinesTest(ShellCase):
    def test_names(self):
        shell = Shell()
        self.check_nothing(shell, "names", "none")
        for name, wanted in (("b", "b"), ("a", "a b"), ("abcdefgh", "a abcdefgh b"), ("none", "a abcdefgh b none")):
            shell.say("score " + name + " score")
            self.check_nothing(shell, "names", wanted)

    def test_show_front_and_pairs(self):
        for score in ((), AIR, AIR[:1], score_at(flat(9)), ((0, 60, 0, 1), (0, 60, 7, 999), (3, 60, 1, 1))):
            shell = shell_with(("a", score))
            self.check_nothing(shell, "show a", score_text(score).replace("\n", " / "))
            told = " ".join([f"{many}:{points}" for many, points in front(score)])
            self.check_nothing(shell, "front a", told or "none")
            self.check_nothing(shell, "pairs a", str(len(closed_pairs(score))))
        self.check_nothing(shell_with(("a", ())), "front a", "none")
        self.check_nothing(shell_with(("a", ())), "pairs a", "0")
        just, more = [score_at([(onset, 60) for onset in onsets]) for onsets in (JUST_300, JUST_301)]
        shell = shell_with(("just", just), ("more", more))
        self.check_nothing(shell, "pairs just", "300")
        self.check_nothing(shell, "pairs more", "error TooMany")
        self.check_nothing(shell, "front more", "error TooMany")
        self.assertEqual(shell.say("front just")[:2], "2:")

    def test_find(self):
        later = tuple([(x + 5, y + 7, 1, 1) for x, y, _, _ in AIR])
        shell = shell_with(("b", AIR), ("a", later), ("none", ()), ("c", AIR[:2]))
        bench = Bench()
        for name, score in (("b", AIR), ("a", later), ("none", ()), ("c", AIR[:2])):
            bench.add(name, score)
        for kind in ("shift", "flip", "back", "both", "slow", "all"):
            for least in (2, 3):
                for text in ("0,0 2,2 4,4", "-3,-3 1,1 3,3", "0,0 1,50 2,-50"):
                    told = bench.search(read_points(text), kind, least)
                    wanted = " ".join([f"{name}:{len(own)}" for name, own in told]) or "none"
                    self.check_nothing(shell, f"find {kind} {least} {text}", wanted)
        self.check_nothing(shell, "find shift 3 0,0 2,2 4,4", "a:1 b:1")
        self.check_nothing(shell, "find shift 2 0,0 1,50", "none")
        self.check_nothing(Shell(), "find shift 2 0,0 1,50", "none")
        crowd = shell_with(("a", score_at(flat(60))))
        self.check_nothing(crowd, "find all 2 " + points_text(tuple(flat(12))), "error TooMany")

    def test_unknown_lines(self):
        shell = shell_with(("air", AIR), ("b", ()))
        shell.say("score c score")
        shell.say("undo")
        for line in ("", " ", "  ", "\n", "what", "version", "version 1", "error", "name", "names ", " names", "names\n", "Names",
                     "NAMES", "names air", "undo ", " undo", "undo 1", "undo\n", "Undo", "redo ", " redo", "redo 1", "redo\n",
                     "drop", "drop ", "drop  ", "drop  air", "drop air ", "drop air b", " drop air", "Drop air", "drop air 1",
                     "dropair", "drop\nair", "show", "show ", "show air ", "show  air", "show air b", "show air 1", "show\nair",
                     "front", "front ", "front air ", "front  air", "front air 2", "pairs", "pairs ", "pairs air ",
                     "pairs  air", "pairs air 2", "pairs air 1 2 3 4",
                     "score", "score ", "score air", "score  ", "score  score", "score  air score", "score air\nscore", " score air score",
                     "Score air score", "score\nair score",
                     "put", "put ", "put air", "put air ", "put air 8 60 0", "put air 8 60 0 ", "put air 8 60 0 4 ", "put air 8 60 0 4 1",
                     "put  8 60 0 4", "put air  8 60 0 4", "put air 8  60 0 4", "put air 08 60 0 4", "put air 8 60 -0 4",
                     "put air 8 60 00 4", "put air +8 60 0 4", "put air 8.0 60 0 4", "put air 8 60 0 x", "put air 8,60,0,4",
                     "put air 1000000 60 0 4", "put air 8 60 0 1000000", "put air -1000000 60 0 4", "put air 8 60 0 4\n",
                     "put air \n8 60 0 4", "put air 8 60 0 1_0", "put air 8 60 0 0x4", "put air 8 60 0 --4", "put air 8 60 0 -",
                     "put air 000008 60 0 4", "put air -08 60 0 4", "put air 8 60 0 4.", "put air eight 60 0 4", "Put air 8 60 0 4",
                     "cut", "cut ", "cut air", "cut air 0 60 0", "cut air 0 60 0 2 ", "cut air 0 60 0 2 2", "cut  0 60 0 2",
                     "cut air 0 60 0 02", "cut air -0 60 0 2", "cut air 0 60 0 2000000", "cut air  0 60 0 2", " cut air 0 60 0 2",
                     "shift", "shift ", "shift air", "shift air ", "shift air 1", "shift air 1 ", "shift air 1 1 ", "shift air 1 1 1",
                     "shift air 1 1 1 1", "put air 1 1", "cut air 1 1",
                     "shift  1 1", "shift air  1 1", "shift air 1  1", "shift air 01 1", "shift air -0 1", "shift air 1 -0",
                     "shift air 1000000 1", "shift air 1 -1000000", "shift air +1 1", "shift air 1 1\n", "shift air a 1",
                     "find", "find ", "find shift", "find shift ", "find shift 2", "find  2 0,0 1,1", "find shift  0,0 1,1",
                     "find shift x 0,0 1,1", "find shift 02 0,0 1,1", "find shift +2 0,0 1,1", "find shift 2\n0,0 1,1",
                     "find shift -0 0,0 1,1", "find shift 1000000 0,0 1,1", "find  shift 2 0,0 1,1", "find shift 2.0 0,0 1,1",
                     "find shift 0,0 1,1", "Find shift 2 0,0 1,1", "find\nshift 2 0,0 1,1", "find   ",
                     "batch", "add air score", "at 0", "copy", "attempt", "search shift 2 0,0 1,1", "help"):
            self.check_nothing(shell, line, "what")

    def test_lines_with_feeds(self):
        shell = shell_with(("air", AIR))
        # A name may hold any sign but a blank, though no such name is on the shelf.
        for line, wanted in (("drop a\n", "error NoName"), ("show \n", "error NoName"), ("put \n 0 60 0 1", "error NoName"),
                             ("score \n score", "error Unfit"), ("score a\n score", "error Unfit"), ("find \n 2 0,0 1,1", "error NoKind"),
                             ("find shift 2 0,0\n1,1", "error BadText"), ("find shift 2 \n", "error BadText")):
            self.check_nothing(shell, line, wanted)

    def test_values_that_are_no_strings(self):
        shell = shell_with(("air", AIR))
        for value in ODD_VALUES + (b"names", ["names"], ("names",), 7, None, True, {"names": 1}):
            self.check_nothing(shell, value, "what")

    def test_six_figures(self):
        shell = shell_with(("b", ()))
        for word, wanted in (("999999", "version 2"), ("-999999", "version 3"), ("100000", "version 4"), ("0", "version 5"),
                             ("-1", "version 6"), ("-100000", "version 7")):
            self.check(shell, f"shift b {word} {word}", wanted)
        for word in ("1000000", "-1000000", "0999999", "000000", "-000001", "00", "-0", "", "-", "9" * 400, "9" * 5000, "1e3"):
            self.check_nothing(shell, f"shift b {word} 1", "what")
            self.check_nothing(shell, f"shift b 1 {word}", "what")

    def test_lines_behind_errors(self):
        # What is no known line is told ahead of what the bench would raise.
        shell = Shell()
        for line, wanted in (("put none 0 60 0", "what"), ("put none 0 60 0 1", "error NoName"), ("shift none x 1", "what"),
                             ("find fast x none", "what"), ("score A", "what"), ("score A x", "error BadText")):
            self.check_nothing(shell, line, wanted)


class ShellTest(ShellCase):
    def test_a_bench_of_its_own(self):
        one, two = Shell(), Shell()
        one.say("score a score")
        self.check(two, "names", "none")
        self.check(two, "undo", "error NothingToUndo")
        self.check(one, "names", "a")

    def test_by_name(self):
        self.assertEqual(list(inspect.signature(vars(Shell)["say"]).parameters)[1:], ["line"])
        self.assertEqual(Shell().say(line="names"), "none")

    def test_beside_a_bench(self):
        shell, bench = Shell(), Bench()
        for line, call in (("score a " + AIR_TEXT, lambda: bench.add("a", read_score(AIR_TEXT.replace(" / ", "\n")))),
                           ("put a 8 70 1 2", lambda: bench.put("a", (8, 70, 1, 2))), ("shift a 1 1", lambda: bench.shift("a", 1, 1)),
                           ("cut a 1 61 0 2", lambda: bench.cut("a", (1, 61, 0, 2))), ("undo", bench.undo), ("redo", bench.redo),
                           ("redo", bench.redo), ("drop b", lambda: bench.drop("b")), ("drop a", lambda: bench.drop("a")),
                           ("drop a", lambda: bench.drop("a")), ("undo", bench.undo)):
            told = raised(call)
            wanted = f"error {type(told).__name__}" if isinstance(told, ScoreError) else f"version {told}"
            self.check(shell, line, wanted)
            self.assertEqual(shell.say("names"), " ".join(bench) or "none")
            for name in bench:
                self.assertEqual(shell.say("show " + name).replace(" / ", "\n"), score_text(bench[name]))


if __name__ == "__main__":
    unittest.main()
