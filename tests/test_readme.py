import doctest
import os
import unittest

README = os.path.join(os.path.dirname(os.path.dirname(os.path.abspath(__file__))), "README.md")


class ReadmeTest(unittest.TestCase):
    def test_examples(self):
        with open(README, encoding="utf-8") as file:
            code = file.read().split("```python\n")[1].split("```")[0]
        runner = doctest.DocTestRunner(verbose=False)
        runner.run(doctest.DocTestParser().get_doctest(code, {}, "README.md", None, 0))
        self.assertEqual(runner.summarize(verbose=False).failed, 0)
        self.assertGreater(runner.summarize(verbose=False).attempted, 30)


if __name__ == "__main__":
    unittest.main()
