"""What several tests use: the examples of the document, wrong values, and calls that are watched."""

import copy
import inspect
import random
from fractions import Fraction

from heardagain import errors


def nested(deep):
    """Return a tuple nested so deep."""
    value = ()
    for _ in range(deep - 1):
        value = (value,)
    return value


# Values of all kinds that are no score, no points, no note, no text and so on, whatever is asked.
ODD_VALUES = (
    None, True, False, 0, 1, -1, 7, 10 ** 399, -10 ** 399, "", "shift ", "0", "abc", "a\nb", "x" * 20000,
    [], [1], [[]], {}, {"a": 1}, {1: (2,), (3, 4): [5]}, (None,), ((),), ((), ()), ([],), ({},), ("",), (True,),
    (1,), (1, 2, 3), ("a", "b"), (None, None, None, None), (True, True, True, True), ([0, 60], [1, 60]),
    nested(20), (None,) * 4000,
)


STILL = ((1, 1), (0, 1), 1, 0)
KINDS = ("shift", "flip", "back", "both", "slow", "all")
NO_KINDS = ODD_VALUES + ("", "SHIFT", "Shift", "shift ", " all", "flips", "bac", "a", "fast", "up", ["shift"], ("all",),
                         ("shift", "flip"), {"both": 1}, KINDS, True, 0, None)


def same(one, two):
    """Return whether two values are equal, and of the same kinds throughout: 1 is not True."""
    if type(one) is not type(two):
        return False
    if isinstance(one, (tuple, list)):
        return len(one) == len(two) and all(same(a, b) for a, b in zip(one, two))
    if isinstance(one, dict):
        return same(list(one.items()), list(two.items()))
    return one == two


def raised(call):
    """Return the error of the package that a call raises, or what it returns."""
    try:
        return call()
    except errors.ScoreError as error:
        return error


def same_error(found, wanted):
    """Return whether found is an error just like wanted: of its very class, with the same attributes."""
    return type(found) is type(wanted) and same(vars(found), vars(wanted))


def check_examples(case, text):
    """Check examples as the document writes them: what an expression returns, or the error that it raises."""
    lines = [line.strip() for line in text.strip().splitlines()]
    space = {}
    at = 0
    checked = 0
    while at < len(lines):
        case.assertTrue(lines[at].startswith(">>> "), lines[at])
        source = lines[at][4:]
        at += 1
        if at == len(lines) or lines[at].startswith(">>> "):
            exec(source, space)
            continue
        check_example(case, source, lines[at], space)
        checked += 1
        at += 1
    return checked


def check_example(case, source, told, space):
    """Check that an expression gives what is told."""
    if told.startswith("raises "):
        wanted = eval(told[len("raises "):], vars(errors).copy())
        found = raised(lambda: eval(source, space))
        case.assertTrue(same_error(found, wanted), (source, told, found))
        return
    case.assertEqual(repr(eval(source, space)), told, source)


def check_names(case, function, names):
    """Check that a function has just these arguments, by place or by name, none of them with a default."""
    found = inspect.signature(function).parameters.values()
    case.assertEqual([one.name for one in found], list(names), function)
    for one in found:
        case.assertEqual((one.kind, one.default), (one.POSITIONAL_OR_KEYWORD, one.empty), function)


def check_call(case, function, wanted, **told):
    """Check what a call gives, by place and by name, that it gives so again, and changes nothing that it is passed.

    wanted is what it returns, or an error like the one that it raises.
    """
    check_names(case, function, told)
    kept = copy.deepcopy(told)
    for _ in range(2):
        for call in (lambda: function(**told), lambda: function(*told.values())):
            found = raised(call)
            if isinstance(wanted, errors.ScoreError):
                case.assertTrue(same_error(found, wanted), (function, told, found, wanted))
            else:
                case.assertTrue(same(found, wanted), (function, told, found, wanted))
            case.assertTrue(same(told, kept), (function, told, kept))


def as_move(q, t, e, v):
    """Return the move with these numbers."""
    return (q.numerator, q.denominator), (t.numerator, t.denominator), e, v


def some_moves(many, seed):
    """Return so many moves, of all kinds."""
    dice = random.Random(seed)
    found = []
    while len(found) < many:
        q = Fraction(dice.choice((1, -1, 1, -1, 2, 3, -3, 5)), dice.choice((1, 1, 1, 2, 3, 4)))
        t = Fraction(dice.randint(-12, 12), dice.choice((1, 1, 1, 2, 3, 6)))
        found.append(as_move(q, t, dice.choice((1, -1)), dice.randint(-50, 50)))
    return found
