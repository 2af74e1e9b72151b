"""The examples of README.md do what their comments say."""

import pathlib
import re
import unittest

README = pathlib.Path(__file__).resolve().parent.parent / "README.md"


class ReadmeTest(unittest.TestCase):
    def test_examples(self):
        blocks = re.findall(r"```python\n(.*?)```", README.read_text(encoding="utf-8"), re.DOTALL)
        self.assertTrue(blocks)
        for block in blocks:
            printed = []
            exec(block, {"print": lambda *things: printed.append(" ".join(map(str, things)))})
            told = [line.split(" # ", 1)[1] for line in block.split("\n") if line.startswith("print(")]
            self.assertEqual(len(printed), len(told))
            for text, comment in zip(printed, told):
                self.assertTrue(comment.startswith(text), f"{text} is not {comment}")


if __name__ == "__main__":
    unittest.main()
