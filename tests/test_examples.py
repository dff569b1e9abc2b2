"""Every example that the document prints for the points that have landed, word for word."""

import unittest

from tests.helper import failed_examples

EXAMPLES = {
    20: """
>>> from ownlog.errors import TooMany
>>> TooMany(7).limit
7
""",
    21: """
>>> from ownlog.kinds import is_story, is_text
>>> [is_story(2, [2, 4, 8]), is_story(2, [3]), is_text('abc', 2)]
[True, False, False]
""",
    22: """
>>> from ownlog.rows import call
>>> [call('abc', 1), call('aabcc', 3)]
['aabcc', 'aabaabccc']
""",
    23: """
>>> from ownlog.rows import follow
>>> follow('abc', [1, 3])
'aabaabccc'
>>> follow('abc', [1, 5])
raises NoCall(1)
""",
}


class Examples(unittest.TestCase):

    def test_examples(self):
        for point, text in EXAMPLES.items():
            with self.subTest(point=point):
                self.assertEqual(failed_examples(text), [])

    def test_an_example_that_does_not_hold_is_told(self):
        text = ">>> from ownlog.rows import call\n>>> call('abc', 1)\n'abc'\n>>> call('abc', 3)\nraises NoCall(3)"
        self.assertEqual(failed_examples(text), [
            ("call('abc', 1)", "'abc'", "'aabcc'"),
            ("call('abc', 3)", "raises NoCall(3)", "raises NoPlace(3)"),
        ])


if __name__ == "__main__":
    unittest.main()
