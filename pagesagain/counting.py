"""Machines that count: rows that go round, however many deeds they have."""

from itertools import permutations
from math import gcd, perm

from pagesagain.bounds import MOST_MODULUS, need_modulus
from pagesagain.errors import TooGreat
from pagesagain.knots import knots_of
from pagesagain.machines import first_rows, need_state, reached
from pagesagain.turning import goes_round, is_turn, led_way, place_tables
from pagesagain.walks import first_walks

# A row that leads states round in a ring of another size does so, done several times, in rings of such a size.
RINGS = (2, 3, 5, 7)


def counting_paper(machine, first, modulus=1, *, most):
    """A row that goes round whose number of deeds the modulus divides, and a row ahead; None if there is none."""
    need_state(machine, first)
    need_modulus(modulus)
    for size in RINGS:
        for ring, step, ahead in _turns(machine, _rings(machine, first, size, most)):
            if _divides(modulus, step, ahead):
                return ("turn", first_rows(machine, first)[ring[0]], _turning_row(machine, ring, modulus))
    return None


def counting_holds(machine, first, modulus, value):
    """Whether any value is a paper, of rows however long, of a row that goes round with such a number of deeds."""
    need_state(machine, first)
    need_modulus(modulus)
    return is_turn(machine, first, modulus, value)


def counting_moduli(machine, first, *, most):
    """The ascending numbers to 9 that divide the number of deeds of no row that goes round."""
    need_state(machine, first)
    moduli = list(range(1, MOST_MODULUS + 1))
    for size in RINGS:
        turns = _turns(machine, _rings(machine, first, size, most))
        for step, ahead in sorted({(step, ahead) for _, step, ahead in turns}):
            moduli = [modulus for modulus in moduli if not _divides(modulus, step, ahead)]
    return tuple(moduli)


def fewest_turning(machine, first, *, most):
    """The fewest deeds of a row that goes round; None if none does."""
    need_state(machine, first)
    tables = place_tables(machine, first)
    layer = [tuple(range(len(tables[0])))]
    seen = {way: True for way in layer}
    many = 0
    while layer:
        many += 1
        layer = _fresh_ways(tables, layer, seen, most)
        if any([goes_round(way) for way in layer]):
            return many
        if len(seen) > most:
            raise TooGreat(most)
    return None


def _fresh_ways(tables, layer, seen, most):
    """The ways one deed behind those of the layer that were not seen yet; none behind the first one above `most`."""
    fresh = []
    for way in layer:
        for table in tables:
            then = led_way(table, way)
            if then not in seen and len(seen) <= most:
                seen[then] = True
                fresh.append(then)
    return fresh


def _rings(machine, first, size, most):
    """All rows of so many unlike states that come; TooGreat if, with those of lesser sizes, there are more."""
    states = list(reached(machine, first))
    if sum([perm(len(states), looked) for looked in RINGS if looked <= size]) > most:
        raise TooGreat(most)
    return list(permutations(states, size))


def _led_rings(machine, ring):
    """By deed, where it leads the ring's states, None if some of them come together."""
    led = [tuple([table[state] for state in ring]) for table in machine.tables]
    return [then if len(set(then)) == len(ring) else None for then in led]


def _turned(ring):
    """Where a row leads the ring's states that leads each to the next one and the last one to the first."""
    return ring[1:] + ring[:1]


def _turns(machine, rings):
    """The rings that some row turns, each with a step and how many deeds the rows have, but for its multiples."""
    numbers = {ring: number for number, ring in enumerate(rings)}
    behind = [[numbers[then] for then in _led_rings(machine, ring) if then is not None] for ring in rings]
    # Turned again and again the ring comes back, so both of them are in one knot.
    knots, heights, steps = knots_of(behind)
    turns = []
    for number, ring in enumerate(rings):
        then = numbers[_turned(ring)]
        if knots[then] == knots[number]:
            turns.append((ring, steps[knots[number]], heights[number] - heights[then]))
    return turns


def _divides(modulus, step, ahead):
    """Whether the modulus divides some great number that is `ahead` but for a multiple of the step."""
    return ahead % gcd(modulus, step) == 0


def _turning_row(machine, ring, modulus):
    """The first row that turns the ring, of those whose number of deeds the modulus divides."""
    def follow(pair):
        here, number = pair
        ahead = (number + 1) % modulus
        return [None if then is None else (then, ahead) for then in _led_rings(machine, here)]
    return first_walks((ring, 0), follow)[_turned(ring), 0]
