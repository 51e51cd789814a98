"""The document's own examples, each line with the answer that stands below it, where the document lies beside."""

import ast
import importlib
import pathlib
import re
import unittest

DOCUMENT = pathlib.Path(__file__).resolve().parent.parent.parent / "shared" / "DOC.md"


def examples():
    """Each block of code of the document, as pairs of the code of some lines and the answer below them, or None."""
    blocks = re.findall(r"^```\n(.*?)^```", DOCUMENT.read_text(encoding="utf-8"), re.DOTALL | re.MULTILINE)
    for block in blocks:
        pairs = []
        for line in block.split("\n"):
            if line.startswith("# "):
                pairs[-1] = (pairs[-1][0], line[2:])
            elif line:
                pairs.append((line, None))
        yield pairs


@unittest.skipUnless(DOCUMENT.exists(), "the document does not lie beside the project")
class DocumentTest(unittest.TestCase):
    def test_examples(self):
        answers = 0
        for pairs in examples():
            names = {}
            for line, answer in pairs:
                with self.subTest(line=line):
                    if answer is None:
                        exec(line, names)
                        continue
                    self.assertEqual(eval(line, names), ast.literal_eval(answer))
                    answers += 1
        self.assertGreater(answers, 45)

    def test_every_name_of_the_interface(self):
        rows = re.findall(r"^\| `(millpapers\.\w+)` \| (.*) \|$", DOCUMENT.read_text(encoding="utf-8"), re.MULTILINE)
        count = 0
        for module, names in rows:
            held = importlib.import_module(module)
            for name in re.findall(r"`(\w+)`", names):
                self.assertEqual(getattr(held, name).__module__, module)
                count += 1
        self.assertGreater(count, 120)


if __name__ == "__main__":
    unittest.main()
