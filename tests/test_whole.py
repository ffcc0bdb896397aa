"""What [A3] promises over the whole program: values of all kinds are let wherever any value may be passed."""

import copy
import importlib
import itertools
import unittest

from heardagain import errors
from heardagain.benches import Bench
from heardagain.closed import closed_pairs
from heardagain.errors import NoKind, ScoreError
from heardagain.kept import Kept
from heardagain.places import places
from heardagain.shells import Shell
from tests.helper import NO_KINDS, ODD_VALUES, raised, same, same_error
from tests.test_language import INTERFACE

SCORE = ((0, 60, 0, 1), (1, 62, 0, 1), (4, 60, 1, 1), (5, 62, 0, 2))
FIGURE = ((0, 0), (1, 2))
UP = (((0, 1, 2, (2, 4), "same"),), ())
STILL = ((1, 1), (0, 1), 1, 0)
PAIR = (((0, 60), (1, 62)), ((0, 0), (4, 0)))
WRITING = ((((0, 0), (1, 2)), ((0, 60), (4, 60))),)

# What stands for the other arguments where one of them may be any value.
RIGHT = {
    "score": SCORE, "other": SCORE[:2], "figure": FIGURE, "points": FIGURE, "point": (0, 60), "move": STILL, "kind": "shift",
    "least": 2, "scores": (SCORE, ()), "pair": PAIR, "writing": WRITING, "place": 0, "theme": FIGURE, "voice": 0, "width": 4,
    "pitches": (60, 62), "others": (67, 69), "prices": (5, 2, 3), "price": 2, "v": 7, "some": (), "pattern": UP, "one": 0, "two": 1,
    "further": STILL, "many": 2, "line": FIGURE, "value": None,
}


def own_things():
    """Return things that this package has returned or made, of all its classes, and some of them with parts changed."""
    kept, bench, shell = Kept(SCORE), Bench(), Shell()
    kept.stand("a", FIGURE, "both", 2)
    kept.put((9, 62, 0, 1))
    bench.add("a", SCORE)
    found = [kept, bench, Bench(), shell, errors.Unfit(), errors.NoKind([1]), errors.ScoreError, Bench, places, kept.put,
             kept.news(0), bench.shelf, bench.search(FIGURE, "all", 2), closed_pairs(SCORE), places(SCORE, FIGURE, "all", 2)]
    return found + [list(found[10]), found[12] + (None,), [found[13]], {"a": found[14]}, (bench, kept), [shell]]


def same_state(one, two):
    """Return whether two values are alike, own objects by what they tell."""
    if isinstance(one, Kept):
        return isinstance(two, Kept) and same((one.score, one.version, one.news(0)), (two.score, two.version, two.news(0)))
    if isinstance(one, Bench):
        return isinstance(two, Bench) and same((one.shelf, one.version), (two.shelf, two.version))
    if isinstance(one, (tuple, list)):
        return type(one) is type(two) and len(one) == len(two) and all(same_state(a, b) for a, b in zip(one, two))
    return type(one) is type(two)


class FunctionsTest(unittest.TestCase):
    def functions_with(self, argument):
        """Return each function of the interface with this argument, with its right ones."""
        found = []
        for name, functions in INTERFACE.items():
            for function, arguments in functions.items():
                if argument in arguments:
                    told = {one: RIGHT[one] for one in arguments if one != argument}
                    if name in ("patterns", "singles", "withins") and "other" in told:
                        told["other"] = UP
                    found.append((getattr(importlib.import_module(f"heardagain.{name}"), function), told))
        return found

    def check_any(self, function, argument, told):
        """Check that all values may be passed as an argument: what is raised is of this package, and each call is alike."""
        for value in ODD_VALUES + tuple(own_things()):
            own = dict(told, **{argument: value})
            kept = value if callable(value) or isinstance(value, Shell) else copy.deepcopy(value)
            one, two = raised(lambda: function(**own)), raised(lambda: function(**own))
            if isinstance(one, ScoreError):
                self.assertTrue(type(one) is type(two) and vars(one).keys() == vars(two).keys(), (function, value))
            else:
                self.assertTrue(same(one, two), (function, value))
            self.assertTrue(same_state(value, kept))

    def test_values(self):
        found = self.functions_with("value")
        self.assertEqual(len(found), 14)
        for function, told in found:
            self.check_any(function, "value", told)

    def test_kinds(self):
        found = self.functions_with("kind")
        self.assertEqual(len(found), 16)
        for function, told in found:
            if function.__name__ == "place_error":
                continue
            self.check_any(function, "kind", told)
            for kind in NO_KINDS + tuple(own_things()):
                error = raised(lambda: function(**dict(told, kind=kind)))
                self.assertIs(type(error), NoKind, function)
                self.assertIs(error.given, kind)

    def test_patterns_numbers_themes_and_voices(self):
        for argument, names in (("pattern", ("places_of", "singles", "ring", "ring_holds", "within", "alike_patterns", "at_one_note")),
                                ("other", ("within", "alike_patterns", "at_one_note")), ("one", ("at_one_note",)),
                                ("two", ("at_one_note",)), ("place", ("with_theme",)), ("theme", ("with_theme",)),
                                ("voice", ("line_of",)), ("least", ("places",))):
            found = [(function, told) for function, told in self.functions_with(argument) if function.__name__ in names]
            self.assertEqual(len(found), len(names))
            for function, told in found:
                self.check_any(function, argument, told)


class MethodsTest(unittest.TestCase):
    def check(self, make, tell, calls):
        """Check that methods let any values in all their arguments, and that what raises changes nothing.

        What is no error of this package goes on, so it fails the test.
        """
        failed = {name: 0 for name, _ in calls}
        values = [value for value in ODD_VALUES if not isinstance(value, str) or len(value) < 99] + own_things()
        for name, rights in calls:
            for at in range(len(rights)):
                for value in values:
                    thing = make()
                    before = tell(thing)
                    arguments = rights[:at] + (value,) + rights[at + 1:]
                    told = raised(lambda: getattr(thing, name)(*arguments))
                    if isinstance(told, ScoreError):
                        failed[name] += 1
                        self.assertTrue(same(tell(thing), before), (name, arguments))
                        again = raised(lambda: getattr(thing, name)(*arguments))
                        self.assertIs(type(again), type(told), (name, arguments))
            for arguments in itertools.product(values[:24:5] + values[-6:-3], repeat=min(len(rights), 3)):
                thing = make()
                before = tell(thing)
                told = raised(lambda: getattr(thing, name)(*(arguments + (None,) * (len(rights) - len(arguments)))))
                if isinstance(told, ScoreError):
                    self.assertTrue(same(tell(thing), before), (name, arguments))
        for name, rights in calls:
            self.assertGreater(failed[name], 40, name)

    def test_kept(self):
        def make():
            kept = Kept(SCORE)
            kept.stand("a", FIGURE, "both", 2)
            return kept

        def tell(kept):
            return kept.score, kept.version, kept.steps, kept.looks, kept.places("a"), kept.news(0)

        self.check(make, tell, (("put", ((9, 9, 0, 1),)), ("cut", (SCORE[0],)), ("stand", ("a", FIGURE, "shift", 2)),
                                ("drop", ("none",)), ("places", ("none",)), ("news", (9,))))

    def test_kept_of_any_value(self):
        for value in ODD_VALUES + tuple(own_things()):
            if value != () and not same(value, SCORE):
                self.assertIs(type(raised(lambda: Kept(value))), errors.BadScore)

    def test_bench(self):
        def make():
            bench = Bench()
            bench.add("a", SCORE)
            return bench

        def tell(bench):
            return bench.shelf, bench.version, bench.at(0)

        self.check(make, tell, (("add", ("a", SCORE)), ("drop", ("none",)), ("put", ("a", SCORE[0])), ("cut", ("a", (9, 9, 0, 1))),
                                ("shift", ("a", -1, 0)), ("batch", ((("drop", "none"),),)), ("at", (9,)),
                                ("search", (FIGURE, "fast", 2)), ("__getitem__", ("none",))))

    def check_values_of_shell(self, shell):
        for value in ODD_VALUES + tuple(own_things()):
            self.assertEqual(shell.say(value), "what")

    def test_shell(self):
        self.check_values_of_shell(Shell())


if __name__ == "__main__":
    unittest.main()
