"""Curves: how many pages there are, how long they must be by modulus, and which cost the least."""

from pagesagain.bounds import LONGEST_PAGE, need_loss
from pagesagain.court import least_length
from pagesagain.digests import least_colours
from pagesagain.machines import need_state, reached
from pagesagain.pages import Link
from pagesagain.rows import row_count


def page_count(link):
    """How many pages can be sent over a link."""
    short = sum([row_count(link.machine, many) for many in range(link.length)])
    return short + row_count(link.machine, link.length) * link.modulus


def lengths_by_modulus(machine, first, loss):
    """By modulus, from 1 to one more than the loss, the least length for which a link is right."""
    need_state(machine, first)
    return tuple([least_length(machine, first, loss, modulus) for modulus in _useful_moduli(loss)])


def cheapest_page(machine, first, loss):
    """The length, the modulus and the number of colours of the page that costs as few kinds as can be."""
    need_state(machine, first)
    moduli = _useful_moduli(loss)
    # The state itself costs so many kinds: it is told by pages without deeds and numbers, in as many colours.
    most = len(reached(machine, first))
    costs = []
    for length in range(LONGEST_PAGE + 1):
        for modulus in moduli:
            kinds = row_count(machine, length) * modulus
            if kinds <= most:
                colours = least_colours(Link(machine, first, length, loss, modulus))
                costs.append((kinds * colours, length, modulus, colours))
    return min(costs)[1:]


def _useful_moduli(loss):
    """The moduli to one more than the loss; with greater ones the numbers tell no more than with the last of these."""
    return list(range(1, need_loss(loss) + 2))
