"""Digests: colours of the state that pages bear, so that they tell the states that they would leave open."""

from pagesagain.apart import led_pair
from pagesagain.bounds import need_length
from pagesagain.checks import is_number, is_paper, is_sequence
from pagesagain.court import coloured_runs, numbered_pairs, open_pairs, run_states
from pagesagain.errors import Refused
from pagesagain.machines import LONGEST_ROW, need_state
from pagesagain.pages import fitting_states
from pagesagain.windows import like_pairs

MOST_COLOURS = 8


def least_colours(link):
    """The fewest colours with which pages always tell the state."""
    return max(first_colouring(link)) + 1


def first_colouring(link):
    """By state its colour: the least tuple with the fewest colours with which pages always tell the state."""
    return _least_colouring(link.machine, open_pairs(link))


def number_colours(link):
    """By number such a tuple as first_colouring, for the pages with this number alone."""
    pairs = [[] for _ in range(link.modulus)]
    for number, one, other in numbered_pairs(link):
        pairs[number].append((one, other))
    return tuple([_least_colouring(link.machine, those) for those in pairs])


def far_pairs(machine, first, length, modulus=1):
    """The ascending pairs of states that pages of this length leave open without a bound on losses."""
    need_state(machine, first)
    need_length(length)
    pairs = like_pairs(machine, first, modulus)
    for _ in range(length):
        pairs = _pairs_behind(machine, pairs)
    return pairs


def far_colouring(machine, first, length, modulus=1):
    """By state its colour: the least tuple with the fewest colours that are enough without a bound on losses."""
    return _least_colouring(machine, far_pairs(machine, first, length, modulus))


def colour_paper(link, colours):
    """None if pages with these colours always tell the state, else rows behind which they do not."""
    rows = coloured_runs(link, _need_colours(link, colours))
    return None if rows is None else ("pages",) + rows


def colour_holds(link, colours, value):
    """Whether any value is a paper of rows behind which pages with these colours do not tell the state."""
    told = _need_colours(link, colours)
    if not is_paper(value, "pages", 4):
        return False
    states = run_states(link, value[1:])
    if states is None or told[states[0]] != told[states[1]]:
        return False
    return all([len(value[1]) + len(row) <= LONGEST_ROW for row in value[2:]])


def colour_state(link, colours, sight, page, colour):
    """The state of whoever sends this page and colour behind the sight."""
    told = _need_colours(link, colours)
    states = fitting_states(link, sight, page)
    if not states:
        raise Refused(page)
    left = [state for state in states if is_number(colour, 0) and told[state] == colour]
    if len(left) != 1:
        raise Refused(colour)
    return left[0]


def _need_colours(link, value):
    """The colours as a tuple; Refused for any value that does not tell one for each state."""
    states = link.machine.states
    if not is_sequence(value, states, states) or not all([is_number(colour, 0, MOST_COLOURS - 1) for colour in value]):
        raise Refused(value)
    return tuple(value)


def _pairs_behind(machine, pairs):
    """The ascending pairs of unlike states to which single deeds lead pairs."""
    led = [led_pair(machine, pair, deed) for pair in pairs for deed in range(machine.deeds)]
    return tuple(sorted({(min(pair), max(pair)) for pair in led if pair[0] != pair[1]}))


def _least_colouring(machine, pairs):
    """By state its colour: the least tuple with the fewest colours that are unlike in each pair."""
    # So many colours are always enough, one for each state.
    for many in range(1, machine.states):
        colours = _coloured(machine, pairs, many, ())
        if colours is not None:
            return colours
    return tuple(range(machine.states))


def _coloured(machine, pairs, many, told):
    """The least such tuple of so many colours that begins with those told; None if there is none."""
    state = len(told)
    if state == machine.states:
        return told
    barred = [told[one] for one, other in pairs if other == state]
    for colour in range(many):
        if colour not in barred:
            colours = _coloured(machine, pairs, many, told + (colour,))
            if colours is not None:
                return colours
    return None
