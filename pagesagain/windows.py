"""Windows: pages so long that each tells the state by itself, however many are lost."""

from pagesagain.apart import apart_behind, apart_layers, led_pair, parting_row
from pagesagain.bounds import need_length, need_modulus
from pagesagain.checks import is_paper
from pagesagain.machines import counted_rows, is_row, lead, need_state
from pagesagain.pages import Link, page_behind, sent_states
from pagesagain.rows import row_count
from pagesagain.walks import first_walks


def like_pairs(machine, first, modulus=1):
    """The ascending pairs of unlike states to which rows lead whose numbers of deeds are alike."""
    need_state(machine, first)
    need_modulus(modulus)
    pairs = [(one, other) for _, one, other in _like_states(machine, first, modulus)]
    return tuple(sorted(set(pairs)))


def least_window(machine, first, modulus=1):
    """The least length that is a window; None if none is."""
    pairs = like_pairs(machine, first, modulus)
    met = [any([pair in layer for pair in pairs]) for layer in apart_layers(machine)]
    # The pairs of the last layer are kept apart by rows as long as one likes.
    return None if met[-1] else met.count(True)


def window_paper(machine, first, length, modulus=1):
    """Two rows that leave the same page of this length in unlike states; None if the length is a window.

    If no length is a window: two rows that lead to unlike states, and a row that leads each of these back to itself.
    """
    need_state(machine, first)
    need_length(length)
    need_modulus(modulus)
    rows = counted_rows(machine, first, modulus)
    layers = apart_layers(machine)
    pairs = _like_states(machine, first, modulus)
    for number, one, other in pairs:
        if (one, other) in layers[-1]:
            row, again = _round_behind(machine, layers, (one, other))
            return ("round", rows[one, number] + row, rows[other, number] + row, again)
    for number, one, other in pairs:
        if (one, other) in apart_behind(layers, length):
            row = parting_row(machine, layers, (one, other), length)
            return ("rows", rows[one, number] + row, rows[other, number] + row)
    return None


def window_holds(machine, first, length, modulus, value):
    """Whether any value is a paper of two rows that lead to unlike states, though no page of this length shows it."""
    need_state(machine, first)
    need_length(length)
    need_modulus(modulus)
    if not (is_paper(value, "rows", 3) or is_paper(value, "round", 4)):
        return False
    if not all([is_row(machine, row) for row in value[1:]]):
        return False
    one, other = [lead(machine, first, row) for row in value[1:3]]
    if one == other or (len(value[1]) - len(value[2])) % modulus != 0:
        return False
    if len(value) == 4:
        again = value[3]
        return len(again) > 0 and lead(machine, one, again) == one and lead(machine, other, again) == other
    # Pages that are not full tell their whole rows, which are unlike here, so that such pages are unlike, too.
    link = Link(machine, first, length, 0, modulus)
    return page_behind(link, tuple(value[1])) == page_behind(link, tuple(value[2]))


def told_states(machine, first, length, page, modulus=1):
    """The ascending states in which a page can be sent, whatever was heard."""
    return sent_states(Link(machine, first, length, 0, modulus), page)


def telling_pages(machine, first, length, modulus=1):
    """How many of the pages with so many deeds tell the state by themselves, and how many such pages there are."""
    need_state(machine, first)
    need_length(length)
    need_modulus(modulus)
    telling = 0
    for states in states_ahead(machine, first, modulus):
        # By the states that a row's deeds leave open, how many rows of so many deeds do so.
        counts = {states: 1}
        for _ in range(length):
            counts = _counts_behind(machine, counts)
        telling += sum([count for left, count in counts.items() if len(left) == 1])
    return (telling, modulus * row_count(machine, length))


def first_telling(machine, first, modulus=1):
    """Of all lengths the first page with so many deeds that tells the state by itself; None if none does."""
    need_state(machine, first)
    need_modulus(modulus)
    found = []
    for number, states in enumerate(states_ahead(machine, first, modulus)):
        rows = first_walks(states, lambda here: _led_states(machine, here))
        telling = [row for left, row in rows.items() if len(left) == 1]
        if telling:
            # The first row of one number ahead is the least of its length, and so is its page.
            found.append((len(telling[0]), telling[0], (number + len(telling[0])) % modulus))
    return min(found)[1:] if found else None


def states_ahead(machine, first, modulus):
    """By number of deeds, modulo, the ascending states to which rows lead with it."""
    counted = sorted(counted_rows(machine, first, modulus))
    return [tuple([state for state, like in counted if like == number]) for number in range(modulus)]


def _like_states(machine, first, modulus):
    """All (number, lesser, greater): unlike states to which rows of this number of deeds, modulo, lead."""
    counted = sorted(counted_rows(machine, first, modulus))
    return [(number, one, other) for one, number in counted for other, like in counted
            if number == like and one < other]


def _led_states(machine, states):
    """By deed, the ascending states to which it leads the states."""
    return [tuple(sorted({table[state] for state in states})) for table in machine.tables]


def _counts_behind(machine, counts):
    """How many rows, one deed longer, leave which states open."""
    behind = {}
    for states, count in counts.items():
        for then in _led_states(machine, states):
            behind[then] = behind.get(then, 0) + count
    return behind


def _round_behind(machine, layers, pair):
    """A row that leads a pair, which is kept apart for ever, to one, and a row that leads that one back to itself."""
    # Of more pairs than there are, one comes twice.
    row = parting_row(machine, layers, pair, machine.states * machine.states)
    places = {pair: 0}
    for place, deed in enumerate(row):
        pair = led_pair(machine, pair, deed)
        if pair in places:
            return (row[:places[pair]], row[places[pair]:place + 1])
        places[pair] = place + 1
    return None
