"""Pairs of states that rows of deeds keep apart."""


def apart_layers(machine):
    """By number of deeds, the pairs of states that some row of so many deeds leads to unlike states.

    Each pair stands in both orders. With more deeds than there are layers the pairs are those of the last one.
    """
    states = range(machine.states)
    layer = {(one, other): True for one in states for other in states if one != other}
    layers = []
    # A row that keeps a pair apart does so with each of its beginnings: no pair comes back.
    while not layers or len(layer) < len(layers[-1]):
        layers.append(layer)
        layer = {pair: True for pair in layer if _parting_deed(machine, layer, pair) is not None}
    return layers


def apart_behind(layers, many):
    """The pairs that some row of so many deeds leads to unlike states."""
    return layers[min(many, len(layers) - 1)]


def parting_row(machine, layers, pair, many):
    """The first row of so many deeds that leads a pair, of which there is such a row, to unlike states."""
    row = []
    for left in reversed(range(many)):
        deed = _parting_deed(machine, apart_behind(layers, left), pair)
        pair = led_pair(machine, pair, deed)
        row.append(deed)
    return tuple(row)


def led_pair(machine, pair, deed):
    """The states to which the deed leads a pair's states."""
    one, other = pair
    return (machine.tables[deed][one], machine.tables[deed][other])


def _parting_deed(machine, layer, pair):
    """The least deed that leads the pair to one of the layer, None if there is none."""
    for deed in range(machine.deeds):
        if led_pair(machine, pair, deed) in layer:
            return deed
    return None
