"""Keys: the narrow steps that points have among themselves, and how many of them are needed."""

from heardagain.basics import is_within
from heardagain.errors import Unfit
from heardagain.moves import check_kind

# The kinds of moves that keep steps, or flat steps, as they are.
KEEPING = ("shift", "flip")


def steps(points, width):
    """Return all narrow steps of points for a width, each with how often it comes."""
    return counted(_narrow_steps(points, width))


def flat_steps(points, width):
    """Return all narrow steps of points for a width, told without the sign of dy, each with how often it comes."""
    return counted([(dx, abs(dy)) for dx, dy in _narrow_steps(points, width)])


def shared_steps(some, others):
    """Return how many steps stand in both, each as often as it comes in the one where it comes less often."""
    own = {step: many for step, many in others}
    return sum([min(many, own.get(step, 0)) for step, many in some])


def need(figure, least, width, kind):
    """Return the least number of narrow steps that so many points of a figure have among themselves."""
    check_kind(kind)
    if kind not in KEEPING or not is_within(least, 2, len(figure)):
        raise Unfit()
    # All lots of at most so many of the points, each with how many narrow steps it has.
    lots = [((), 0)]
    for point in figure:
        lots = lots + [(lot + (point,), many + _narrow_to(lot, point, width)) for lot, many in lots if len(lot) < least]
    return min([many for lot, many in lots if len(lot) == least])


def counted(items):
    """Return each of the items with how often it comes, ascending."""
    counts = {}
    for item in items:
        counts[item] = counts.get(item, 0) + 1
    return tuple(sorted(counts.items()))


def step_of(one, two):
    """Return the step of two points, the lesser one first."""
    return (two[0] - one[0], two[1] - one[1])


def _narrow_steps(points, width):
    found = [step_of(one, two) for place, two in enumerate(points) for one in points[:place]]
    return [step for step in found if step[0] <= width]


def _narrow_to(lot, point, width):
    """Return how many of a lot of points have a narrow step to a greater point."""
    return len([1 for other in lot if point[0] - other[0] <= width])
