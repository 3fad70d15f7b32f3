"""The examples of README.md answer as they are written there."""

import doctest
import pathlib
import unittest

README = pathlib.Path(__file__).resolve().parent.parent / "README.md"


class ReadmeTest(unittest.TestCase):
    def test_the_examples(self):
        examples = doctest.DocTestParser().get_doctest(
            README.read_text(encoding="utf-8"), {}, README.name, str(README), 0
        )
        self.assertTrue(examples.examples)
        report = []
        found = doctest.DocTestRunner(verbose=False).run(examples, out=report.append)
        self.assertEqual(found.failed, 0, "".join(report))


if __name__ == "__main__":
    unittest.main()
