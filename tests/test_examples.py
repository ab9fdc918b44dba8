"""The examples of the document, as they stand, and those of README.md."""

import pathlib
import re
import unittest

README = pathlib.Path(__file__).resolve().parent.parent / "README.md"
FOLDER = pathlib.Path(__file__).resolve().parent / "examples"


def blocks(text):
    """Pairs of a told line and the line that stands behind it, None if there is none."""
    lines = text.splitlines()
    for at, line in enumerate(lines):
        if line.startswith(">>> "):
            follows = at + 1 < len(lines) and not lines[at + 1].startswith(">>> ")
            yield line[4:], lines[at + 1] if follows else None


def raised(call, names):
    """How the document writes the error that a told line raises."""
    try:
        got = eval(call, names)
    except Exception as caught:
        told = ", ".join(f"{name}={value!r}" for name, value in vars(caught).items())
        return f"raises {type(caught).__name__}({told})"
    return repr(got)


class Examples(unittest.TestCase):
    def run_text(self, text):
        names = {}
        many = 0
        for told, wanted in blocks(text):
            if wanted is None:
                exec(told, names)
            else:
                many += 1
                self.assertEqual(raised(told, names), wanted, told)
        self.assertGreater(many, 1)

    def test_examples(self):
        paths = sorted(FOLDER.glob("*.txt"))
        self.assertGreater(len(paths), 0)
        for path in paths:
            with self.subTest(path.name):
                self.run_text(path.read_text())

    def test_readme(self):
        for text in re.findall("^```\n(>>> .*?)^```", README.read_text(), re.M | re.S):
            self.run_text(text)

    def test_each_told_line_is_run(self):
        for path in FOLDER.glob("*.txt"):
            told = re.findall("^>>> ", path.read_text(), re.M)
            self.assertEqual(len(told), len(list(blocks(path.read_text()))))


if __name__ == "__main__":
    unittest.main()
