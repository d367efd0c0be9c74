"""The examples of the README."""

import doctest
import os
import unittest

PLACE = os.path.join(os.path.dirname(os.path.dirname(os.path.abspath(__file__))), "README.md")


class Examples(unittest.TestCase):

    def test_they_print_what_they_say(self):
        with open(PLACE, encoding="utf-8") as file:
            text = "".join("\n" if line.startswith("```") else line for line in file)
        test = doctest.DocTestParser().get_doctest(text, {}, "README.md", PLACE, 0)
        said = []
        results = doctest.DocTestRunner(verbose=False).run(test, out=said.append)
        self.assertEqual(results.failed, 0, "".join(said))
        self.assertGreater(results.attempted, 20)


if __name__ == "__main__":
    unittest.main()
