import pathlib
import re
import unittest

README = pathlib.Path(__file__).resolve().parent.parent / "README.md"


class Readme(unittest.TestCase):
    def test_examples_hold(self):
        example = re.search(r"```python\n(.*?)```", README.read_text(encoding="utf-8"), re.S).group(1)
        lines = example.split("\n")
        names = {}
        exec("\n".join(line for line in lines if "#" not in line), names)
        told = [line.split("#", 1) for line in lines if "#" in line]
        self.assertTrue(told)
        for asked, answer in told:
            with self.subTest(asked=asked):
                self.assertEqual(repr(eval(asked, names)), answer.strip().split(":")[0])


if __name__ == "__main__":
    unittest.main()
