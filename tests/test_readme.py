"""The examples in README.md give what is written there."""

import doctest
import unittest
from pathlib import Path

README = Path(__file__).resolve().parent.parent / "README.md"


class Examples(unittest.TestCase):
    def test_the_examples(self):
        # The line that closes a block of code would count as output of its last example.
        lines = ["" if line.startswith("```") else line for line in README.read_text(encoding="utf-8").splitlines()]
        found = doctest.DocTestParser().get_doctest("\n".join(lines) + "\n", {}, "README", str(README), 0)
        self.assertGreater(len(found.examples), 0)
        self.assertEqual(doctest.DocTestRunner(verbose=False).run(found).failed, 0)


if __name__ == "__main__":
    unittest.main()
