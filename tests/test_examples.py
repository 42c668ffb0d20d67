"""Every row of the examples of [4] to [25]."""

import importlib
import unittest

from tests import examples
from tests.support import MODULES, strictly


# As the sections stand in the document, where names go on from one to the next.
SECTIONS = ("kinds", "chambers", "draughts", "ticks", "deeds", "runs", "fires", "rules", "steady", "pairs", "saving",
            "keeping", "stills", "back", "looks", "repairs", "starts", "alike", "accounts", "judge", "texts", "board")


def all_names():
    names = {}
    for module in MODULES:
        names.update(vars(importlib.import_module("ringkiln." + module)))
    return names


def rows_of(text):
    """Pairs of a row and what stands below it, None if nothing does."""
    lines = text.strip("\n").split("\n")
    for place, line in enumerate(lines):
        if line.startswith(">>> "):
            below = lines[place + 1] if place + 1 < len(lines) else ">>> "
            yield line[4:], None if below.startswith(">>> ") else below


def error_told(error):
    values = ", ".join(f"{name}={value!r}" for name, value in vars(error).items())
    return f"raises {type(error).__name__}({values})"


class Examples(unittest.TestCase):
    def check(self, row, below, names):
        if below is None:
            exec(row, names)
        elif below.startswith("raises "):
            with self.assertRaises((LookupError, ValueError)) as caught:
                eval(row, names)
            self.assertEqual(error_told(caught.exception), below)
        else:
            value = eval(row, names)
            self.assertTrue(strictly(value, eval(below, {})), f"{row}\n{value!r}\n{below}")

    def test_every_row(self):
        names = all_names()
        rows = 0
        for module in SECTIONS:
            for row, below in rows_of(getattr(examples, module.upper())):
                with self.subTest(module=module, row=row):
                    self.check(row, below, names)
                rows += 1
        self.assertEqual(sorted(SECTIONS + ("desk",)), sorted(MODULES))
        self.assertEqual(rows, 238)


if __name__ == "__main__":
    unittest.main()
