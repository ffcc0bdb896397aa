"""The examples of README.md."""

import pathlib
import unittest

from tests.helper import check_examples

README = pathlib.Path(__file__).resolve().parent.parent / "README.md"


def blocks(text):
    """Return the blocks of indented lines that begin with an example."""
    found = [[]]
    for line in text.splitlines():
        if line.startswith("    "):
            found[-1].append(line)
        elif found[-1]:
            found.append([])
    return ["\n".join(block) for block in found if block and block[0].startswith("    >>> ")]


class ReadmeTest(unittest.TestCase):
    def test_examples(self):
        # Names that a block sets stand in the further ones.
        found = blocks(README.read_text(encoding="utf-8"))
        self.assertGreaterEqual(check_examples(self, "\n".join(found)), len(found))


if __name__ == "__main__":
    unittest.main()
