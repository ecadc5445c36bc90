import doctest
import unittest
from pathlib import Path


class Readme(unittest.TestCase):
    def test_examples(self):
        path = Path(__file__).resolve().parent.parent / "README.md"
        text = path.read_text().replace("```", "")
        examples = doctest.DocTestParser().get_doctest(text, {}, path.name, str(path), 0)
        told = doctest.DocTestRunner().run(examples)
        self.assertGreater(told.attempted, 0)
        self.assertEqual(told.failed, 0)


if __name__ == "__main__":
    unittest.main()
