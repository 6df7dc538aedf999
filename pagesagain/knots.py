"""Knots: things of a net each of which leads to each other one of its knot, and how long the ways in a knot are."""

from math import gcd


def knots_of(behind):
    """By thing, its knot and its height in it; by knot, its step. `behind` tells by thing the things it leads to.

    A way within a knot has, but for a multiple of the step, as many moves as its first thing is higher than its last
    one; and there are such ways of every such number that is great enough. (The step is 0 where there are no ways.)
    """
    ahead = [[] for _ in behind]
    for thing, others in enumerate(behind):
        for then in others:
            ahead[then].append(thing)
    knots = [None] * len(behind)
    heights = [0] * len(behind)
    for start in reversed(left_order(behind)):
        waiting = []
        if knots[start] is None:
            knots[start] = start
            waiting.append(start)
        while waiting:
            thing = waiting.pop()
            for before in ahead[thing]:
                if knots[before] is None:
                    knots[before] = start
                    heights[before] = heights[thing] + 1
                    waiting.append(before)
    return (knots, heights, _steps_of(behind, knots, heights))


def left_order(behind):
    """The things, in the order in which a search that goes as deep as it can leaves them."""
    order = []
    met = [False] * len(behind)
    looked = [0] * len(behind)
    for start in range(len(behind)):
        path = [] if met[start] else [start]
        met[start] = True
        while path:
            thing = path[-1]
            if looked[thing] == len(behind[thing]):
                order.append(path.pop())
                continue
            then = behind[thing][looked[thing]]
            looked[thing] += 1
            if not met[then]:
                met[then] = True
                path.append(then)
    return order


def _steps_of(behind, knots, heights):
    """By knot, the greatest step that divides how much each move in it differs from a fall by one."""
    steps = {knot: 0 for knot in knots}
    for thing, others in enumerate(behind):
        for then in others:
            if knots[then] == knots[thing]:
                steps[knots[thing]] = gcd(steps[knots[thing]], heights[thing] - heights[then] - 1)
    return steps
