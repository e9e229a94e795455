"""README.md: what it says that calls return."""

import ast
import unittest
from pathlib import Path

README = Path(__file__).resolve().parent.parent / 'README.md'


class ReadmeTest(unittest.TestCase):

    def test_examples(self):
        known, done = {}, 0
        for block in README.read_text().split('```python\n')[1:]:
            for line in block.split('```')[0].splitlines():
                code, _, told = line.partition('  # ')
                tree = ast.parse(code)
                if tree.body and isinstance(tree.body[0], ast.Expr):
                    found = eval(code, known)
                else:
                    exec(code, known)
                    found = eval(code.partition(' = ')[0], known) if told else None
                if told[:1] and told[0] in "('[01234NT":
                    done += 1
                    self.assertEqual(repr(found), repr(self.value_of(told)), line)
        self.assertGreater(done, 20)

    def value_of(self, told):
        """Return the value that a comment begins with."""
        for end in range(len(told), 0, -1):
            if end == len(told) or told[end] in ':,':
                try:
                    return eval(told[:end], {})
                except (SyntaxError, NameError):
                    continue
        return self.fail(told)


if __name__ == '__main__':
    unittest.main()
