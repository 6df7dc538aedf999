"""The document's own examples, and those of README.md."""

import doctest
import os
import unittest

from pagesagain.machines import Machine, led, reached
from pagesagain.pages import Link, fitting, fitting_states, page_of, sent_states, sight_of
from pagesagain.rows import repeat_end, repeat_steps
from tests.helper import Case

README = os.path.join(os.path.dirname(os.path.dirname(os.path.abspath(__file__))), "README.md")


class Chapter3(Case):
    def test_machines_and_rows(self):
        worn = Machine([(1, 2, 2), (0, 0, 1)])
        self.same((led(worn, 0, (0, 0, 1)), reached(worn, 2), repeat_end(worn, (1, 0, 1, 0, 0, 1, 0), 3),
                   repeat_steps(worn, (0, 1, 0, 1, 0))), (1, (0, 1, 2), 6, (2, 4)))

    def test_pages(self):
        link = Link(Machine([(1, 2, 2), (0, 0, 1)]), 0, 2, 3)
        self.same((page_of(link, (0, 1, 1)), sight_of(link, (0, 0)), sent_states(link, ((0, 1), 0))),
                  (((1, 1), 0), (2, ((0, 0), 0)), (0, 1)))
        sight = (2, ((0, 0), 0))
        self.same((fitting(link, sight, ((0, 0), 0)), fitting(link, sight, ((0, 1), 0))), ((0, 1, 2, 3), (1, 2, 3)))
        self.same(fitting_states(link, sight, ((0, 1), 0)), (1,))


class Readme(Case):
    def test_examples(self):
        failed, tried = doctest.testfile(README, module_relative=False)
        self.assertEqual(failed, 0)
        self.assertGreater(tried, 0)


if __name__ == "__main__":
    unittest.main()
