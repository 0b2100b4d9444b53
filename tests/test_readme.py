"""The rows that README.md shows tell what it says that they tell."""

import pathlib
import unittest

README = pathlib.Path(__file__).resolve().parent.parent / "README.md"


def told_value(remark, names):
    """What a remark begins with, up to its end or to a colon behind it."""
    for cut in range(len(remark), 0, -1):
        if cut == len(remark) or remark[cut] == ":":
            try:
                return eval(remark[:cut], names)
            except (NameError, SyntaxError):
                continue
    raise ValueError(remark)


class Readme(unittest.TestCase):
    def test_each_row_tells_what_its_remark_says(self):
        names = {}
        found = 0
        for row in README.read_text(encoding="utf-8").split("```python\n")[1].split("```")[0].splitlines():
            code, mark, remark = row.partition("  # ")
            if not mark:
                exec(row, names)
            elif not remark.strip().startswith("some "):
                self.assertEqual(eval(code, names), told_value(remark.strip(), names), row)
                found += 1
        self.assertGreater(found, 40)


if __name__ == "__main__":
    unittest.main()
