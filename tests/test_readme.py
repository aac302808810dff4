import re
import unittest
from pathlib import Path

README = Path(__file__).resolve().parent.parent / "README.md"


class Readme(unittest.TestCase):
    def test_the_examples_tell_what_they_say(self):
        block = re.search("```python\n(.*?)```", README.read_text(encoding="utf-8"), re.DOTALL).group(1)
        names = {}
        looked_at = 0
        for row in block.split("\n"):
            code, mark, words = row.partition("  # ") if "  # " in row else row.partition(" # ")
            if not mark:
                exec(row, names)
                continue
            setting = re.match(r"(\w+) = (.*)", code.strip())
            value = eval(setting.group(2) if setting else code.strip(), names)
            if setting:
                names[setting.group(1)] = value
            told = repr(value).replace("'", '"')
            self.assertTrue(words.strip() == told or words.strip().startswith(told + ","), row)
            looked_at += 1
        self.assertGreater(looked_at, 25)


if __name__ == "__main__":
    unittest.main()
