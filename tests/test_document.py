"""The examples of the whole document, as they stand in it: `examples.txt` has them, with empty lines between."""

import os
import unittest

from raggedtotals import errors

HERE = os.path.dirname(os.path.abspath(__file__))


def text_of(path):
    with open(path, encoding="utf-8") as file:
        return file.read()


def examples():
    """The examples, each a pair of its lines of code and the line with what it gives."""
    found = []
    for chunk in text_of(os.path.join(HERE, "examples.txt")).strip("\n").split("\n\n"):
        *code, wanted = chunk.split("\n")
        found.append(([line.removeprefix(">>> ") for line in code], wanted))
    return found


def outcome(lines):
    """What the last of these lines gives, in the way the document writes it."""
    names = {}
    try:
        for line in lines[:-1]:
            exec(line, names)
        return repr(eval(lines[-1], names))
    except (errors.RaggedError, errors.StateError, errors.RuleError, errors.LimitError) as error:
        fields = ", ".join(f"{name}={value!r}" for name, value in vars(error).items())
        return f"raises {type(error).__name__}({fields})"


class ExamplesTest(unittest.TestCase):
    def test_all_examples(self):
        self.assertEqual(len(examples()), 28)
        for lines, wanted in examples():
            with self.subTest(lines=lines):
                self.assertEqual(outcome(lines), wanted)

    def test_every_module_of_the_interface_has_one(self):
        text = "\n".join(line for lines, _ in examples() for line in lines)
        for name in ("names", "shapes", "conditions", "texts", "schemas", "consequences", "hierarchies", "cubes",
                     "datasets", "cellshapes", "linear", "sums", "blindspots", "counting", "stores", "bans",
                     "warehouses", "reports", "checker", "certificates"):
            self.assertIn(f"from raggedtotals.{name} import", text)


if __name__ == "__main__":
    unittest.main()
