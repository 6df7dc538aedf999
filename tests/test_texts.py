"""[10]: texts of machines, links, rows and pages, and how they are read."""

import itertools
import unittest

from pagesagain.errors import BadPage, BadRow, BadText
from pagesagain.machines import Machine
from pagesagain.pages import Link, page_of
from pagesagain.texts import (link_text, machine_text, page_text, read_link, read_machine, read_page, read_row,
                              row_text)
from tests.helper import ANY, GREAT, NO_ROWS, NO_SEQUENCES, ONE, STAIRS, WORN, Case, machines_of, rows_to

NO_STRINGS = [value for value in ANY if not isinstance(value, str)] + [["0"], ("states 1", "0")]
# None of these is a number as texts have it.
NO_WORDS = ["", "00", "01", "+1", "-1", "-0", "--", "1.0", "1_0", "0x1", "x", "O", "l", "\u0661", "\u00b2", "\uff11",
            "1\t", "\t1", "1\r", "\x0b1", "\u00a01", "9" * 5000, "0" * 5000]
MACHINES = machines_of(2, 1) + machines_of(2, 2)[::3] + [ONE, WORN, STAIRS, GREAT, Machine([(0,)] * 4)]
LINKS = [Link(WORN, 0, 2, 3), Link(WORN, 2, 12, 8, 9), Link(ONE, 0, 0, 0, 2), Link(GREAT, 7, 3, 1, 4)]


class Told(Case):
    def test_machines(self):
        self.same(machine_text(WORN), "states 3\n1 2 2\n0 0 1")
        self.same(machine_text(ONE), "states 1\n0")
        self.same(machine_text(machine=GREAT).split("\n"),
                  ["states 8", "0 1 2 3 4 5 6 7", "1 2 3 4 5 6 7 0", "0 0 0 0 0 0 0 0", "7 7 7 7 7 7 7 7"])

    def test_links(self):
        self.same(link_text(Link(WORN, 0, 3, 2)), "states 3\n1 2 2\n0 0 1\nlink 0 3 2 1")
        self.same(link_text(link=Link(ONE, 0, 12, 8, 9)), "states 1\n0\nlink 0 12 8 9")

    def test_rows(self):
        self.same((row_text(WORN, ()), row_text(WORN, []), row_text(WORN, [1])), ("-", "-", "1"))
        self.same(row_text(machine=GREAT, row=[3, 0, 2, 2]), "3 0 2 2")
        self.same(row_text(WORN, [0, 1] * 200), " ".join(["0 1"] * 200))

    def test_pages(self):
        link = Link(WORN, 0, 2, 1, 3)
        self.same((page_text(link, ((), 0)), page_text(link, [[1], 1])), ("-:0", "1:1"))
        self.same(page_text(link=link, page=([0, 1], 2)), "0 1:2")
        self.same(page_text(Link(WORN, 0, 0, 1, 3), ((), 2)), "-:2")

    def test_wrong_rows_and_pages(self):
        for value in NO_SEQUENCES + [[0] * 401]:
            self.refuses(BadRow, -1, row_text, WORN, value)
            self.refuses(BadPage, -1, page_text, LINKS[0], value)
            self.refuses(BadPage, 0, page_text, LINKS[0], (value, 0))
        self.refuses(BadRow, 1, row_text, WORN, [0, 2, 2])
        self.refuses(BadPage, 1, page_text, LINKS[0], ([0, 1], 1))
        for value in NO_ROWS[-3:]:
            self.refuses(BadPage, 0, page_text, LINKS[1], (value, 1))


class ReadAgain(Case):
    def test_machines(self):
        for machine in MACHINES:
            self.assertEqual(read_machine(machine_text(machine)), machine)
            self.assertIs(type(read_machine(text=machine_text(machine))), Machine)

    def test_links(self):
        for machine, length, loss, modulus in itertools.product(MACHINES, (0, 1, 12), (0, 8), (1, 9)):
            link = Link(machine, machine.states - 1, length, loss, modulus)
            self.assertEqual(read_link(link_text(link)), link)
            self.assertEqual(read_link(text=link_text(link)), link)

    def test_rows(self):
        for machine in (ONE, WORN, GREAT):
            for row in rows_to(machine.deeds, 3):
                self.same(read_row(machine, row_text(machine, row)), row)
        self.same(read_row(machine=WORN, text=" ".join(["1"] * 400)), (1,) * 400)
        self.same(read_row(WORN, "-"), ())

    def test_pages(self):
        for link in LINKS:
            for row in rows_to(link.machine.deeds, 4) + [(0,) * 20]:
                page = page_of(link, row)
                self.same(read_page(link, page_text(link, page)), page)
                self.same(read_page(text=page_text(link, page), link=link), page)


class Lines(Case):
    def lines_refused(self, at, lines):
        """That a machine's text, and a link's likewise, are refused for this line."""
        self.refuses(BadText, at, read_machine, "\n".join(lines))
        self.refuses(BadText, at, read_link, "\n".join(lines))

    def test_no_strings(self):
        for value in NO_STRINGS:
            self.refuses(BadText, 0, read_machine, value)
            self.refuses(BadText, 0, read_link, text=value)
            self.refuses(BadText, 0, read_row, WORN, value)
            self.refuses(BadText, 0, read_page, LINKS[0], value)

    def test_the_first_line(self):
        wrong = ["", " ", "states", "states ", " states 2", "states 2 ", "states  2", "states 0", "states 9", "state 2",
                 "States 2", "states -", "2", "2 states", "states 2 2", "states\t2", "0 1"]
        for line in wrong + [f"states {word}" for word in NO_WORDS]:
            for rest in ([], ["0 1"], ["0 1", "1 0", "link 0 1 1 1"], ["bent", "bent"]):
                self.lines_refused(1, [line] + rest)

    def test_lines_of_tables(self):
        wrong = ["", " ", "-", "0", "0 1 0", "0  1", " 0 1", "0 1 ", "0 2", "2 0", "0,1", "0 -", "states 2", "0 1 link"]
        for line in wrong + [f"{word} 0" for word in NO_WORDS] + [f"0 {word}" for word in NO_WORDS]:
            for ahead in range(4):
                self.lines_refused(ahead + 2, ["states 2"] + ["1 0"] * ahead + [line])
                self.lines_refused(ahead + 2, ["states 2"] + ["1 0"] * ahead + [line, "1 0", "link 0 1 1 1"])

    def test_lines_that_lack(self):
        self.lines_refused(2, ["states 1"])
        self.lines_refused(2, ["states 8"])
        for many in range(1, 5):
            text = "\n".join(["states 2"] + ["1 0"] * many)
            self.assertEqual(read_machine(text).deeds, many)
            self.refuses(BadText, many + 2, read_link, text)

    def test_lines_too_many(self):
        for many in range(5, 8):
            self.lines_refused(6, ["states 2"] + ["1 0"] * many)
            self.lines_refused(6, ["states 2"] + ["1 0"] * many + ["link 0 1 1 1"])
        for many in range(1, 5):
            lines = ["states 2"] + ["1 0"] * many
            for line in ("", "-", "link 0 1 1 1", "states 2", "x"):
                self.refuses(BadText, many + 2, read_machine, "\n".join(lines + [line]))
                self.refuses(BadText, many + 3, read_link, "\n".join(lines + ["link 0 1 1 1", line]))
                self.refuses(BadText, many + 3, read_link, "\n".join(lines + ["link 0 1 1 1", line, line]))
            self.refuses(BadText, many + 3, read_link, "\n".join(lines + ["link 0 1 1 1", "1 0"]))

    def test_the_line_of_the_link(self):
        wrong = ["", " ", "link", "link 0 1 1", "link 0 1 1 1 1", "link  0 1 1 1", " link 0 1 1 1", "link 0 1 1 1 ",
                 "Link 0 1 1 1", "links 0 1 1 1", "0 1 1 1", "link 2 1 1 1", "link 0 13 1 1", "link 0 1 9 1",
                 "link 0 1 1 10", "link 0 1 1 0", "link - 1 1 1", "link -", "link 0,1,1,1", "1 0 0"]
        for word in NO_WORDS:
            wrong += [f"link {word} 1 1 1", f"link 0 {word} 1 1", f"link 0 1 {word} 1", f"link 0 1 1 {word}"]
        for line in wrong:
            for many in range(1, 5):
                lines = ["states 2"] + ["1 0"] * many + [line]
                self.refuses(BadText, many + 2, read_link, "\n".join(lines))
                self.refuses(BadText, many + 2, read_link, "\n".join(lines + ["link 0 1 1 1"]))

    def test_no_empty_text(self):
        self.lines_refused(1, [""])
        self.lines_refused(1, ["", ""])
        self.refuses(BadText, 4, read_machine, "states 3\n1 2 2\n0 0 1\n")
        self.refuses(BadText, 5, read_link, "states 3\n1 2 2\n0 0 1\nlink 0 3 2 1\n")
        self.refuses(BadText, 1, read_machine, "states 3\r\n1 2 2")


class Words(Case):
    def test_wrong_words(self):
        for word in NO_WORDS + ["-", "2", "10", "1\n", "0\n1", "1:0"]:
            if word != "-":
                self.refuses(BadText, 0, read_row, WORN, word)
            self.refuses(BadText, 0, read_row, WORN, word + " 0")
            self.refuses(BadText, 2, read_row, WORN, f"0 1 {word}")
            self.refuses(BadText, 1, read_row, text=f"0 {word} {word} 9", machine=WORN)

    def test_empty_words(self):
        for text, at in (("", 0), (" ", 0), (" 0", 0), ("0 ", 1), ("0  1", 1), ("0 1  ", 2), ("- ", 0), (" -", 0)):
            self.refuses(BadText, at, read_row, WORN, text)

    def test_deeds_of_the_machine_alone(self):
        self.same(read_row(GREAT, "3 2"), (3, 2))
        self.refuses(BadText, 1, read_row, GREAT, "3 4")
        self.refuses(BadText, 0, read_row, ONE, "1")

    def test_the_401st_word(self):
        self.refuses(BadText, 400, read_row, WORN, " ".join(["1"] * 401))
        self.refuses(BadText, 400, read_row, WORN, " ".join(["1"] * 400 + ["x"]))
        self.refuses(BadText, 400, read_row, WORN, " ".join(["1"] * 400) + " ")
        self.refuses(BadText, 400, read_row, WORN, " ".join(["0"] * 1000 + ["x"]))
        self.refuses(BadText, 399, read_row, WORN, " ".join(["1"] * 399 + ["x", "1"]))

    def test_wrong_pages(self):
        link = Link(WORN, 0, 2, 3, 3)
        wrong = ["", ":", "0", "-", "0:", ":0", "-:", "0 1", "0 1:", "0 1:3", "0 1:0:", "0 1::0", "0 1:0:0", "0 1 :0",
                 "0 1: 0", " 0 1:0", "0 1:0 ", "0  1:0", "0 2:0", "0 1 1:0", "-:1", "-:2", "0:0", "0:2", "- -:0",
                 "0 -:2", "-0:1", "0 1:0\n", "0 1\n:0", "0,1:0", "0 1:-"]
        for text in wrong + [f"{word} 0:0" for word in NO_WORDS] + [f"0 0:{word}" for word in NO_WORDS]:
            self.refuses(BadText, 1, read_page, link, text)
        self.same([read_page(link, text) for text in ("-:0", "0:1", "0 1:0", "0 1:1", "0 1:2")],
                  [((), 0), ((0,), 1), ((0, 1), 0), ((0, 1), 1), ((0, 1), 2)])
        self.refuses(BadText, 1, read_page, Link(WORN, 0, 0, 1), "0:0")
        self.refuses(BadText, 1, read_page, Link(WORN, 0, 12, 1), " ".join(["0"] * 13) + ":0")


if __name__ == "__main__":
    unittest.main()
