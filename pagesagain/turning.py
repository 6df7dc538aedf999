"""Rows that go round, and the numbers on pages that help against them."""

from pagesagain.bounds import MOST_MODULUS, need_length, need_loss, need_modulus
from pagesagain.checks import is_paper
from pagesagain.machines import are_deeds, check_row, first_rows, lead, need_state, reached


def turn_of(machine, state, row):
    """After how many times the row first leads the state back to itself, 0 if it never does."""
    need_state(machine, state)
    return _turn(machine, state, check_row(machine, row))


def turning_lengths(machine, first, loss):
    """The ascending numbers, to the loss, of deeds of rows that go round."""
    need_state(machine, first)
    need_loss(loss)
    layers = _ways_to(machine, first, loss)
    return tuple([many for many in range(1, loss + 1) if any([goes_round(way) for way in layers[many]])])


def turn_paper(machine, first, loss, modulus=1):
    """The first row that goes round whose number of deeds the numbers hide, and the first row ahead; None for none."""
    need_state(machine, first)
    need_loss(loss)
    need_modulus(modulus)
    for layer in _ways_to(machine, first, loss)[modulus::modulus]:
        for way, row in layer.items():
            if goes_round(way):
                return ("turn", _row_ahead(machine, first, row), row)
    return None


def turn_holds(machine, first, loss, modulus, value):
    """Whether any value is a paper of a row that goes round, within the loss, whose number of deeds is hidden."""
    need_state(machine, first)
    need_loss(loss)
    need_modulus(modulus)
    return is_turn(machine, first, modulus, value) and len(value[2]) <= loss


def turned_rows(machine, first, length, loss, modulus=1):
    """Two rows that lead to unlike states and leave the same page of this length; None if no row goes round so."""
    need_state(machine, first)
    need_length(length)
    paper = turn_paper(machine, first, loss, modulus)
    if paper is None:
        return None
    _, ahead, row = paper
    # As often as makes the length full, the last time perhaps in part.
    times = (length + len(row) - 1) // len(row)
    one = ahead + row * times
    return (one, one + row)


def good_moduli(machine, first, loss):
    """The ascending numbers to 9 that divide the number of deeds of no row that goes round."""
    lengths = turning_lengths(machine, first, loss)
    moduli = range(1, MOST_MODULUS + 1)
    return tuple([modulus for modulus in moduli if all([length % modulus != 0 for length in lengths])])


def least_modulus(machine, first, loss):
    """The least number that helps."""
    # The greatest number is above all losses, so that it always helps.
    return good_moduli(machine, first, loss)[0]


def is_turn(machine, first, modulus, value):
    """Whether any value is a paper, of rows however long, of a row that goes round whose number of deeds is hidden."""
    if not is_paper(value, "turn", 3) or not all([are_deeds(machine, deeds) for deeds in value[1:]]):
        return False
    _, ahead, row = value
    return len(row) % modulus == 0 and _turn(machine, lead(machine, first, ahead), row) > 1


def place_tables(machine, first):
    """By deed, where it leads each of the states that come, all told by their places among these."""
    states = reached(machine, first)
    return [[states.index(table[state]) for state in states] for table in machine.tables]


def led_way(table, way):
    """The way of a row and the deed of the table behind it.

    A way tells by place where a row leads each of the states that come.
    """
    return tuple([table[place] for place in way])


def goes_round(way):
    """Whether rows of this way go round."""
    # In the image of eight rows, as many as there can be states, all places come back.
    image = way
    for _ in range(3):
        image = [image[place] for place in image]
    return any([way[place] != place for place in image])


def _turn(machine, state, row):
    """As turn_of, for a row that was looked at before, however long."""
    there = lead(machine, state, row)
    times = 1
    while there != state:
        # Among so many states that are not this one, one came twice: they go round without it.
        if times == machine.states:
            return 0
        there = lead(machine, there, row)
        times += 1
    return times


def _ways_to(machine, first, most):
    """By number of deeds, to the most: by way the first row of so many deeds that goes it, in the order of the rows."""
    tables = place_tables(machine, first)
    layers = [{tuple(range(len(tables[0]))): ()}]
    for _ in range(most):
        layer = {}
        for way, row in layers[-1].items():
            for deed, table in enumerate(tables):
                layer.setdefault(led_way(table, way), row + (deed,))
        layers.append(layer)
    return layers


def _row_ahead(machine, first, row):
    """The first row that leads the first state to one that the row leads round."""
    for state, ahead in first_rows(machine, first).items():
        if _turn(machine, state, row) > 1:
            return ahead
    return None
