"""README.md: its examples run, and give what the comments behind them say."""

import ast
import re
import unittest
from pathlib import Path

from tests.support import Case

README = Path(__file__).resolve().parent.parent / "README.md"


def rows():
    """The lines of all examples: the code and the value that its comment tells, if it tells one."""
    for block in re.findall(r"```python\n(.*?)```", README.read_text(), re.DOTALL):
        for line in block.split("\n"):
            code, _, comment = line.partition("  # ")
            try:
                yield code.strip(), (ast.literal_eval(comment.strip()),)
            except (SyntaxError, ValueError):
                yield code.strip(), None


class Readme(Case):
    def test_examples(self):
        names = {}
        told = 0
        for code, wanted in rows():
            if wanted is None:
                exec(code, names)
            else:
                self.assert_same((eval(code, names),), wanted)
                told += 1
        self.assertGreater(told, 15)

    def test_all_modules_are_listed(self):
        listed = re.findall(r"\| `nestweigh\.([a-z]+)` \|", README.read_text())
        files = [path.stem for path in (README.parent / "nestweigh").glob("*.py") if path.stem != "__init__"]
        self.assertEqual(sorted(listed), sorted(files))


if __name__ == "__main__":
    unittest.main()
