"""Texts of machines, links, rows and pages, and how they are read."""

from pagesagain.bounds import LONGEST_PAGE, MOST_LOSS, MOST_MODULUS
from pagesagain.errors import BadText
from pagesagain.machines import LONGEST_ROW, MOST_DEEDS, MOST_STATES, Machine, check_row
from pagesagain.pages import Link, as_page, check_page, page_fault

NONE = "-"


def machine_text(machine):
    """The lines of a machine: how many states, then the table of each deed."""
    lines = [f"states {machine.states}"] + [numbers_text(table) for table in machine.tables]
    return "\n".join(lines)


def link_text(link):
    """The lines of the link's machine, then that of the link's numbers."""
    numbers = numbers_text((link.first, link.length, link.loss, link.modulus))
    return f"{machine_text(link.machine)}\nlink {numbers}"


def row_text(machine, row):
    """The line of a row."""
    return numbers_text(check_row(machine, row))


def page_text(link, page):
    """The line of a page: its deeds and its number."""
    deeds, number = check_page(link, page)
    return f"{numbers_text(deeds)}:{number}"


def read_machine(text):
    """The machine that the text tells; BadText with the first line that is wrong."""
    lines = _read_text(text).split("\n")
    tables = _read_tables(lines)
    if len(lines) > len(tables) + 1:
        raise BadText(len(tables) + 2)
    return Machine(tables)


def read_link(text):
    """The link that the text tells; BadText with the first line that is wrong."""
    lines = _read_text(text).split("\n")
    machine = Machine(_read_tables(lines))
    at = machine.deeds + 2
    numbers = _read_link_line(machine, lines[at - 1]) if len(lines) >= at else None
    if numbers is None:
        raise BadText(at)
    if len(lines) > at:
        raise BadText(at + 1)
    first, length, loss, modulus = numbers
    return Link(machine, first, length, loss, modulus)


def read_row(machine, text):
    """The row that the text tells; BadText with the index of the first word that is wrong."""
    deeds = []
    for at, word in enumerate(_split(_read_text(text))):
        deed = read_number(word, machine.deeds)
        if deed is None or at == LONGEST_ROW:
            raise BadText(at)
        deeds.append(deed)
    return tuple(deeds)


def read_page(link, text):
    """The page that the text tells; BadText(1) for a line that tells none."""
    parts = _read_text(text).split(":")
    if len(parts) != 2:
        raise BadText(1)
    deeds = [read_number(word, link.machine.deeds) for word in _split(parts[0])]
    page = (deeds, read_number(parts[1], link.modulus))
    # A word that tells no number stands here as None, which is neither a deed nor a page's number.
    if page_fault(link, page) is not None:
        raise BadText(1)
    return as_page(page)


def numbers_text(numbers):
    """The numbers with one blank between."""
    return " ".join([str(number) for number in numbers]) if numbers else NONE


def read_number(word, many):
    """The number below so many that the word tells, None if it tells none."""
    # Python's int takes more than a text may have: signs, leading zeros, blanks, digits of other scripts.
    for number in range(many):
        if word == str(number):
            return number
    return None


def _split(line):
    """The words that tell numbers: none in the line that stands for none."""
    return [] if line == NONE else line.split(" ")


def _read_text(value):
    """The string itself; BadText for any value that is none."""
    if not isinstance(value, str):
        raise BadText(0)
    return value


def _read_tables(lines):
    """The tables that the first lines tell, as many as there are; BadText if there are none."""
    states = _read_states(lines[0])
    if states is None:
        raise BadText(1)
    tables = []
    for line in lines[1:MOST_DEEDS + 1]:
        table = [read_number(word, states) for word in line.split(" ")]
        if len(table) != states or None in table:
            break
        tables.append(table)
    if not tables:
        raise BadText(2)
    return tables


def _read_states(line):
    """How many states a machine's first line tells, None if it is no such line."""
    words = line.split(" ")
    if len(words) != 2 or words[0] != "states" or words[1] == "0":
        return None
    return read_number(words[1], MOST_STATES + 1)


def _read_link_line(machine, line):
    """The four numbers of a link's own line, None if it is no such line."""
    words = line.split(" ")
    if len(words) != 5 or words[0] != "link" or words[4] == "0":
        return None
    bounds = (machine.states, LONGEST_PAGE + 1, MOST_LOSS + 1, MOST_MODULUS + 1)
    numbers = [read_number(word, bound) for word, bound in zip(words[1:], bounds)]
    return None if None in numbers else numbers
