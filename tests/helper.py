"""What several tests use: the examples of the document, wrong values, and calls that are watched."""

import copy
import functools
import inspect
import itertools
import random
from fractions import Fraction

from heardagain import errors
from heardagain.points import figure_error
from heardagain.scores import points_of, score_error


def nested(deep):
    """Return a tuple nested so deep."""
    value = ()
    for _ in range(deep - 1):
        value = (value,)
    return value


# Values of all kinds that are no score, no points, no note, no text and so on, whatever is asked.
ODD_VALUES = (
    None, True, False, 0, 1, -1, 7, 10 ** 399, -10 ** 399, "", "shift ", "0", "abc", "a\nb", "x" * 20000,
    [], [1], [[]], {}, {"a": 1}, {1: (2,), (3, 4): [5]}, (None,), ((),), ((), ()), ([],), ({},), ("",), (True,),
    (1,), (1, 2, 3), ("a", "b"), (None, None, None, None), (True, True, True, True), ([0, 60], [1, 60]),
    nested(20), (None,) * 4000,
)


STILL = ((1, 1), (0, 1), 1, 0)
KINDS = ("shift", "flip", "back", "both", "slow", "all")
NO_KINDS = ODD_VALUES + ("", "SHIFT", "Shift", "shift ", " all", "flips", "bac", "a", "fast", "up", ["shift"], ("all",),
                         ("shift", "flip"), {"both": 1}, KINDS, True, 0, None)


def same(one, two):
    """Return whether two values are equal, and of the same kinds throughout: 1 is not True."""
    if type(one) is not type(two):
        return False
    if isinstance(one, (tuple, list)):
        return len(one) == len(two) and all(same(a, b) for a, b in zip(one, two))
    if isinstance(one, dict):
        return same(list(one.items()), list(two.items()))
    return one == two


def raised(call):
    """Return the error of the package that a call raises, or what it returns."""
    try:
        return call()
    except errors.ScoreError as error:
        return error


def same_error(found, wanted):
    """Return whether found is an error just like wanted: of its very class, with the same attributes."""
    return type(found) is type(wanted) and same(vars(found), vars(wanted))


def check_examples(case, text):
    """Check examples as the document writes them: what an expression returns, or the error that it raises."""
    lines = [line.strip() for line in text.strip().splitlines()]
    space = {}
    at = 0
    checked = 0
    while at < len(lines):
        case.assertTrue(lines[at].startswith(">>> "), lines[at])
        source = lines[at][4:]
        at += 1
        if at == len(lines) or lines[at].startswith(">>> "):
            exec(source, space)
            continue
        check_example(case, source, lines[at], space)
        checked += 1
        at += 1
    return checked


def check_example(case, source, told, space):
    """Check that an expression gives what is told."""
    if told.startswith("raises "):
        wanted = eval(told[len("raises "):], vars(errors).copy())
        found = raised(lambda: eval(source, space))
        case.assertTrue(same_error(found, wanted), (source, told, found))
        return
    case.assertEqual(repr(eval(source, space)), told, source)


def check_names(case, function, names):
    """Check that a function has just these arguments, by place or by name, none of them with a default."""
    found = inspect.signature(function).parameters.values()
    case.assertEqual([one.name for one in found], list(names), function)
    for one in found:
        case.assertEqual((one.kind, one.default), (one.POSITIONAL_OR_KEYWORD, one.empty), function)


def check_call(case, function, wanted, **told):
    """Check what a call gives, by place and by name, that it gives so again, and changes nothing that it is passed.

    wanted is what it returns, or an error like the one that it raises.
    """
    check_names(case, function, told)
    kept = copy.deepcopy(told)
    for _ in range(2):
        for call in (lambda: function(**told), lambda: function(*told.values())):
            found = raised(call)
            right = same_error if isinstance(wanted, errors.ScoreError) else same
            if not right(found, wanted):
                # What is long is told in part.
                case.fail(f"{function.__name__} of {told!r:.2000} gave {found!r:.1000}, not {wanted!r:.1000}")
            case.assertTrue(same(told, kept), (function, "has changed what it was passed"))


def as_move(q, t, e, v):
    """Return the move with these numbers."""
    return (q.numerator, q.denominator), (t.numerator, t.denominator), e, v


def some_moves(many, seed):
    """Return so many moves, of all kinds."""
    dice = random.Random(seed)
    found = []
    while len(found) < many:
        q = Fraction(dice.choice((1, -1, 1, -1, 2, 3, -3, 5)), dice.choice((1, 1, 1, 2, 3, 4)))
        t = Fraction(dice.randint(-12, 12), dice.choice((1, 1, 1, 2, 3, 6)))
        found.append(as_move(q, t, dice.choice((1, -1)), dice.randint(-50, 50)))
    return found


def score_at(points):
    """Return the score with a note at each of these points."""
    return tuple([point + (0, 1) for point in sorted(set(points))])


def flat(many, pitch=60):
    """Return so many points of one pitch."""
    return [(k, pitch) for k in range(many)]


def told_hits(score, figure, move):
    """Return the points of a figure that come to points of a score, worked out by fractions."""
    q, t, e, v = move
    heard = points_of(score)
    return tuple([(x, y) for x, y in figure if (Fraction(*q) * x + Fraction(*t), e * y + v) in heard])


def told_moves(score, figure):
    """Return all moves by which two points of a figure with unlike onsets come to two points of a score."""
    found = {}
    heard = points_of(score)
    for (x, y), (end, high) in [(a, b) for a in figure for b in figure if a[0] != b[0]]:
        for (begin, low), (last, top) in [(a, b) for a in heard for b in heard if a[0] != b[0]]:
            for e in (1, -1):
                if top - low == e * (high - y):
                    q = Fraction(last - begin, end - x)
                    found[as_move(q, begin - q * x, e, low - e * y)] = True
    return sorted(found)


def some_cases(many, seed):
    """Return so many pairs of a score and a figure that have places of all kinds, chords among them."""
    dice = random.Random(seed)
    found = []
    while len(found) < many:
        wide, high, step = dice.choice(((6, 4, 1), (8, 3, 1), (5, 3, 2), (12, 2, 1), (4, 6, 3)))
        points = {(dice.randrange(wide) * dice.choice((1, step)), dice.randrange(high)) for _ in range(dice.randint(0, 9))}
        figure = tuple(sorted({(dice.randint(-3, 3), dice.randint(-2, 2)) for _ in range(dice.randint(2, 5))}))
        if dice.random() < 0.3:
            # The figure itself stands in the score, by some move.
            q, e = dice.choice((1, 1, 2, -1, -2)), dice.choice((1, 1, -1))
            points.update([(q * x + 6, e * y + 2) for x, y in figure])
        score = tuple(sorted({point + (voice, 1 + voice) for point in points for voice in dice.choice(((0,), (1, 3)))}))
        if figure_error(figure) is None and score_error(score) is None:
            found.append((score, figure))
    return found


def all_lots(items):
    """Return all tuples of some of the items, in their order, without ()."""
    return [tuple([item for place, item in enumerate(items) if bits >> place & 1]) for bits in range(1, 1 << len(items))]


def told_shifts(points, lot):
    """Return all shifts that lead each of a lot of points to one of points."""
    found = [(x - lot[0][0], y - lot[0][1]) for x, y in points]
    return tuple([(dx, dy) for dx, dy in found if all((x + dx, y + dy) in points for x, y in lot)])


def told_closed(points):
    """Return all closed pairs of points, by going through all lots of them."""
    shifts = sorted({(end - x, high - y) for x, y in points for end, high in points})
    lead = [sum([1 << place for place, (dx, dy) in enumerate(shifts) if (x + dx, y + dy) in points]) for x, y in points]
    still = 1 << shifts.index((0, 0)) if points else 0
    own = [(1 << len(shifts)) - 1]
    found = []
    for bits in range(1, 1 << len(points)):
        own.append(own[bits & (bits - 1)] & lead[(bits & -bits).bit_length() - 1])
        # (0, 0) is the least of them, and there is another one.
        if own[bits] & -own[bits] == still != own[bits]:
            kept = [place for place, led_by in enumerate(lead) if led_by & own[bits] == own[bits]]
            if sum([1 << place for place in kept]) == bits:
                found.append((tuple([points[place] for place in kept]),
                              tuple([shift for place, shift in enumerate(shifts) if own[bits] >> place & 1])))
    return tuple(sorted(found))


def some_points(many, seed):
    """Return so many tuples of at most nine points, in which much comes again."""
    dice = random.Random(seed)
    found = [(), ((3, 60),), ((3, 60), (3, 64)), ((3, 60), (5, 60), (7, 60))]
    while len(found) < many:
        wide, high = dice.choice(((9, 1), (5, 2), (3, 3), (4, 4), (1, 9), (12, 2), (30, 30)))
        own = {(dice.randrange(wide), 50 + dice.randrange(high)) for _ in range(dice.randint(2, 9))}
        if dice.random() < 0.4:
            far = [(dice.randrange(40), dice.randrange(12)) for _ in range(dice.randint(2, 3))]
            own = {(x + dx, y + dy) for x, y in sorted(own)[:dice.choice((3, 4))] for dx, dy in far}
        if len(own) <= 9:
            found.append(tuple(sorted(own)))
    return found


# Rows of onsets whose points, all of one pitch, have just so many closed pairs.
JUST_300 = (0, 1, 2, 4, 5, 6, 7, 8, 10, 11, 12, 13, 14, 15, 16, 18, 19)
JUST_301 = (1, 5, 6, 7, 8, 9, 10, 12, 13, 14, 15, 16, 18, 19, 20, 21, 23)


def sums(theme, shifts):
    """Return all to which shifts lead the points of a theme."""
    return {(x + dx, y + dy) for x, y in theme for dx, dy in shifts}


def some_writings(many, seed):
    """Return so many writings, in which themes lie over one another, stand several times, and are single points."""
    dice = random.Random(seed)
    found = [(), ((((0, 0),), ((3, 60),)),), ((((0, 0), (1, 0)), ((0, 0), (1, 0))),)]
    while len(found) < many:
        wide, high = dice.choice(((4, 1), (3, 3), (6, 2)))
        themes = [((0, 0),)] + [
            tuple(sorted({(0, 0)} | {(dice.randint(1, wide), dice.randint(-high, high)) for _ in range(dice.randint(0, 3))}))
            for _ in range(dice.randint(1, 3))]
        pairs = set()
        for _ in range(dice.randint(1, 5)):
            shifts = {(dice.randint(0, 9), 50 + dice.randint(0, high)) for _ in range(dice.randint(1, 4))}
            pairs.add((dice.choice(themes), tuple(sorted(shifts))))
        if len(set().union(*[sums(*pair) for pair in pairs])) <= 60:
            found.append(tuple(sorted(pairs)))
    return found


def told_keeps(pattern, notes):
    """Return whether notes, one for each number, keep all rules and bounds of a pattern, as [I2] tells it."""
    rules, bounds = pattern
    for place, (of, low, high, pitches, voice) in enumerate(rules):
        a, b = notes[of], notes[place + 1]
        if not low <= b[0] - a[0] <= high or b[1] - a[1] not in pitches:
            return False
        if (voice == "same" and a[2] != b[2]) or (voice == "other" and a[2] == b[2]):
            return False
    return all(low <= notes[two][0] - notes[one][0] <= high for one, two, low, high in bounds)


def told_places(score, pattern):
    """Return all places of a pattern in a score, going through all rows of unlike notes."""
    many = len(pattern[0]) + 1
    if many > 4:
        # There are so many rows that those which break the first two rules are left out ahead of the others.
        first = (pattern[0][:2], ())
        rows = [row + rest for row in itertools.permutations(score, 3) if told_keeps(first, row)
                for rest in itertools.permutations([note for note in score if note not in row], many - 3)]
    else:
        rows = itertools.permutations(score, many)
    return tuple([row for row in rows if told_keeps(pattern, row)])


def some_window(dice, wide):
    """Return the two ends of a window."""
    low = dice.randint(-wide, wide)
    return low, low + dice.randint(0, wide)


def some_patterns(many, seed, wide=2, most=4):
    """Return so many patterns with narrow windows, few pitches and few bounds."""
    dice = random.Random(seed)
    found = []
    while len(found) < many:
        rules = []
        for place in range(dice.randint(1, most)):
            pitches = tuple(sorted({dice.choice((0, 0, 1, 2, -2)) for _ in range(dice.randint(1, 3))}))
            window = (0, 0) if dice.random() < 0.2 else some_window(dice, wide)
            rules.append((dice.randint(0, place),) + window + (pitches, dice.choice(("same", "other", "any", "any"))))
        bounds = []
        for _ in range(dice.choice((0, 0, 1, 1, 2, 3))):
            one, two = dice.sample(range(len(rules) + 1), 2)
            bounds.append((one, two) + some_window(dice, wide + 1))
        found.append((tuple(rules), tuple(bounds)))
    return found


def some_pattern_scores(many, pattern, seed):
    """Return so many small scores; in most of them there are notes that keep at least the rules of the pattern."""
    dice = random.Random(seed)
    found = []
    while len(found) < many:
        notes = [(dice.randint(4, 8), dice.randint(60, 61), dice.randint(0, 2))]
        for of, low, high, pitches, voice in pattern[0]:
            onset, pitch, own = notes[of]
            other = {"same": own, "other": (own + dice.randint(1, 3)) % 8, "any": dice.choice((own, 3))}[voice]
            notes.append((onset + dice.randint(low, high), pitch + dice.choice(pitches), other))
        if dice.random() < 0.2:
            notes.pop(dice.randrange(len(notes)))
        for _ in range(dice.randint(0, 2)):
            notes.append((dice.randint(3, 9), dice.randint(59, 63), dice.randint(0, 3)))
        score = tuple(sorted({(max(0, onset), pitch, voice, 1 + voice) for onset, pitch, voice in notes}))
        if score_error(score) is None:
            found.append(score)
    return found


def plainly(notes):
    """Return the score with these notes told plainly, by all ways of renaming its voices."""
    first, low = min([note[0] for note in notes]), min([note[1] for note in notes])
    voices = sorted({note[2] for note in notes})
    return min([tuple(sorted([(note[0] - first, note[1] - low, names[voices.index(note[2])], 1) for note in notes]))
                for names in itertools.permutations(range(len(voices)))])


def told_rows(pattern):
    """Return all rows of unlike notes that keep a pattern, the first note being (0, 0, 0)."""
    rows = [((0, 0, 0),)]
    for of, low, high, pitches, voice in pattern[0]:
        rows = [row + ((row[of][0] + later, row[of][1] + pitch, own),) for row in rows for later in range(low, high + 1)
                for pitch in pitches for own in range(len(pattern[0]) + 1)
                if voice == "any" or (voice == "same") == (own == row[of][2])]
        rows = [row for row in rows if row[-1] not in row[:-1]]
    return [row for row in rows if told_keeps(pattern, row)]


@functools.lru_cache(maxsize=None)
def told_singles(pattern):
    """Return all singles of a pattern with narrow windows, going through all rows of notes."""
    lots = {frozenset(row) for row in told_rows(pattern)}
    return tuple(sorted({plainly(sorted(lot)) for lot in lots}))


def told_onsets(pattern):
    """Return all rows of onsets that keep the rules and the bounds of a pattern, the first one being 0."""
    rows = [(0,)]
    for of, low, high, _, _ in pattern[0]:
        rows = [row + (row[of] + later,) for row in rows for later in range(low, high + 1)]
    return [row for row in rows if all(low <= row[two] - row[one] <= high for one, two, low, high in pattern[1])]


# Values that are no pattern, each with what is told of it.
NO_PATTERNS = (
    (None, "form"), ([], "form"), ((), "form"), ("ab", "form"), (((), ()), "rules"), (((None,) * 5, None), "rules"),
    (([(0, 1, 2, (2,), "same")], ()), "rules"), (((None,), None), ("rule", 0)),
    ((((0, 1, 2, (2,), "same"), (2, 1, 2, (2,), "same")), ()), ("rule", 1)),
    ((((0, 1, True, (2,), "same"),), ()), ("rule", 0)), ((((0, 1, 2, (2,), "same"),), [(0, 1, 1, 1)]), "bounds"),
    ((((0, 1, 2, (2,), "same"),), ((0, 1, 1, 1), (0, 0, 1, 1))), ("bound", 1)), ({"a": 1}, "form"), (True, "form"),
)
