""".ci/check_language.py: it finds what is changed in a loop that iterates over it (rule L23)."""

import ast
import importlib.util
import unittest
from pathlib import Path

ROOT = Path(__file__).resolve().parent.parent
# Each body of a function with the lines of its breaches; the function's head is line 1.
BREACHES = {
    "for x in xs:\n  xs.append(x)": [3],
    "for x in xs:\n  ys.append(x)": [],
    "for at, x in enumerate(xs):\n  xs[at] = x": [3],
    "for x, y in zip(xs, ys):\n  ys.pop()": [3],
    "for x, y in d.items():\n  del d[x]": [3],
    "for x in list(xs):\n  xs.remove(x)": [],
    "for x in self.rows:\n  self.rows.append(x)": [3],
    "for x in self.rows:\n  other.rows.clear()": [3],
    "for x in rows[k]:\n  rows[k].append(x)": [3],
    "for x in rows[k]:\n  rows[j].append(x)": [],
    "for x in rows:\n  rows += [x]": [3],
    "for x in rows:\n  heappush(rows, x)": [3],
    "for x in (xs if k else ys):\n  ys.append(x)": [3],
    "for x in xs or ys:\n  ys.append(x)": [3],
    "return [xs.pop() for x in xs]": [2],
    "return [ys.pop() for x in xs]": [],
    # The same list under two names, whichever comes first.
    "ring = [1]\nwhile ring:\n  after = []\n  for x in ring:\n    after.append(x)\n  ring = after": [6],
    "ring = after = []\nfor x in ring:\n  after.append(x)": [4],
    "ring, after = after, []\nfor x in ring:\n  after.append(x)": [4],
    "other = xs\nlast = other\nfor x in last:\n  xs.append(x)": [5],
    "other = list(xs)\nfor x in other:\n  xs.append(x)": [],
    "other = xs[1:]\nfor x in other:\n  xs.append(x)": [],
    "other = xs if k else []\nfor x in other:\n  xs.append(x)": [4],
    "self.rows = rows\nfor x in rows:\n  self.rows.append(x)": [4],
}


def checker():
    spec = importlib.util.spec_from_file_location("check_language", ROOT / ".ci" / "check_language.py")
    module = importlib.util.module_from_spec(spec)
    spec.loader.exec_module(module)
    return module


class Loops(unittest.TestCase):
    def test_what_is_changed_in_a_loop(self):
        check = checker().check_loops
        for body, lines in BREACHES.items():
            text = "def call(xs, ys):\n" + "\n".join(" " + line for line in body.split("\n"))
            with self.subTest(body=body):
                self.assertEqual(sorted({line for line, _ in check(ast.parse(text))}), lines)

    def test_the_package_has_no_such_place(self):
        files = sorted((ROOT / "nestweigh").glob("*.py"))
        self.assertGreater(len(files), 10)
        for path in files:
            self.assertEqual(list(checker().check_loops(ast.parse(path.read_text()))), [], path.name)


if __name__ == "__main__":
    unittest.main()
