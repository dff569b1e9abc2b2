"""Every example that the document prints for the points that have landed, word for word."""

import unittest

from tests.helper import failed_examples

EXAMPLES = {
    20: """
>>> from ownlog.errors import TooMany
>>> TooMany(7).limit
7
""",
    21: """
>>> from ownlog.kinds import is_story, is_text
>>> [is_story(2, [2, 4, 8]), is_story(2, [3]), is_text('abc', 2)]
[True, False, False]
""",
    22: """
>>> from ownlog.rows import call
>>> [call('abc', 1), call('aabcc', 3)]
['aabcc', 'aabaabccc']
""",
    23: """
>>> from ownlog.rows import follow
>>> follow('abc', [1, 3])
'aabaabccc'
>>> follow('abc', [1, 5])
raises NoCall(1)
""",
    24: """
>>> from ownlog.maps import shown, showing
>>> [shown(2, 1, 0), shown(2, 1, 1), shown(2, 1, 2), shown(2, 1, 3), shown(2, 1, 4), showing(2, 1, 0), showing(2, 1, 1)]
[0, 0, 1, 2, 2, [0, 1], [2]]
""",
    30: """
>>> from ownlog.far import Far
>>> far = Far('abc', [1, 3])
>>> [far.length(), far.letter(4), far.origins(7), far.piece(2, 4), far.called(), far.after(0).length()]
[9, 'a', [7, 4, 2], 'baab', 'bc', 17]
>>> Far('ab', [1] * 64).length()
18446744073709551617
""",
    31: """
>>> from ownlog.far import Far
>>> from ownlog.reading import count_before, letter_place
>>> far = Far('abc', [1, 3])
>>> [count_before(far, 'a', 5), letter_place(far, 'a', 2), letter_place(far, 'c', 0)]
[4, 3, 6]
""",
    32: """
>>> from ownlog.far import Far
>>> from ownlog.reading import copies, copy_at
>>> far = Far('abc', [1, 3])
>>> [copies(far, 0), copies(far, 1), copies(far, 2), copy_at(far, 1, 1)]
[4, 2, 3, 5]
""",
    40: """
>>> from ownlog.tallies import tally, tally_after
>>> [tally('abc'), tally_after(tally('abc'), 'bc')]
[[('a', 1), ('b', 1), ('c', 1)], [('a', 4), ('b', 2), ('c', 3)]]
""",
    41: """
>>> from ownlog.tallies import called, most_called, tally_before
>>> late = [('a', 4), ('b', 2), ('c', 3)]
>>> [tally_before(late), most_called(late), called(late, 2)]
[('c', [('a', 2), ('b', 1), ('c', 2)]), 2, 'bc']
""",
    42: """
>>> from ownlog.counting import stories_many, story_number, story_of
>>> late = [('a', 4), ('b', 2), ('c', 3)]
>>> [stories_many('abc', late, 2), story_of('abc', late, 2, 1), story_number('abc', [1, 3]), stories_many('abb', late, 2)]
[2, [1, 4], 0, 0]
""",
    50: """
>>> from ownlog.elders import elder, elders
>>> [elder('aabaabccc'), elder('aaa'), elders('abc'), elders('aaabaaabaaa')]
[('aabcc', [3]), ('aa', [0, 1]), [], [('aabaaa', [1]), ('aaabaa', [4])]]
""",
    51: """
>>> from ownlog.elders import are_obstacles, obstacles
>>> [obstacles('abc'), obstacles('ab'), are_obstacles('abc', [(0, 1, 2), (1, 0, 1)])]
[[(0, 1, 2), (1, 0, 1)], [], True]
""",
    52: """
>>> from ownlog.pasts import past, pasts
>>> [past('aabaabccc'), past('ab'), pasts('aaa')]
[('abc', [1, 3]), ('ab', []), [('aa', [0]), ('aa', [1])]]
>>> past('aaabaaabaaa')
raises Several(2)
""",
    53: """
>>> from ownlog.far import Far
>>> from ownlog.pasts import far_past, same
>>> [far_past(Far('aabcc', [3])), same(Far('aabcc', [3]), Far('abc', [1, 3])), same(Far('abc', [2]), Far('abc', [1]))]
[('abc', [1, 3]), True, False]
""",
    60: """
>>> from ownlog.joints import joint_step, joints
>>> [joint_step('abaca'), joints('ababa'), joints('ab'), joint_step('aaaa')]
[4, [0, 2, 4], [], 1]
""",
    61: """
>>> from ownlog.joints import classes
>>> classes('ababa')
[[0, 2, 4], [1], [3]]
""",
    62: """
>>> from ownlog.twins import root, twins
>>> [root('abab'), root('aab'), twins('aab', 1, 4, 5)]
['ab', 'aab', ('aabaaa', 'aaabaa')]
>>> twins('aab', 1, 4, 6)
raises NoTwins(4)
""",
    63: """
>>> from ownlog.twins import are_twins, partners
>>> [partners('aabaaa', 1), partners('aabaaa', 0), are_twins('aaabaa', 4, 'aabaaa', 1, 'aab')]
[[('aaabaa', 4, 'aab')], [], True]
""",
    64: """
>>> from ownlog.twins import triple
>>> triple('aaba', 1, 5, 10)
('aabaaaabaaa', 'aaabaaabaaa', 'aaabaaaabaa')
""",
    70: """
>>> from ownlog.numbering import rows_many, seeds_many
>>> [rows_many(2, 5, 0), rows_many(2, 5, 1), rows_many(3, 5, 2), seeds_many(2, 5), seeds_many(3, 4)]
[16, 12, 36, 4, 54]
""",
    71: """
>>> from ownlog.numbering import number_of, row_of
>>> [row_of(2, 5, 2, 0), number_of(2, 'aabbb', 2), number_of(2, 'aabba', 1), number_of(2, 'ba', 0)]
['abbbb', 1, None, 1]
""",
    72: """
>>> from ownlog.order import greatest_story, least_story, sorted_calls
>>> [sorted_calls('abc'), least_story('abc', 2), greatest_story('ab', 1)]
[[1, 2, 0], [1, 2], [0]]
""",
    73: """
>>> from ownlog.order import differences, first_difference, last_difference
>>> [first_difference('abc', 'bbc', [1]), last_difference('abc', 'bbc', [1]), differences('abc', 'bbc', [1])]
[0, 1, 2]
""",
    80: """
>>> from ownlog.far import Far
>>> from ownlog.patterns import first_from, occurrences, occurrences_before, pattern_place
>>> far = Far('abc', [1, 3])
>>> [occurrences(far, 'aab'), occurrences_before(far, 'aab', 3), pattern_place(far, 'aab', 1), first_from(far, 'cc', 7)]
[2, 1, 3, 7]
""",
    81: """
>>> from ownlog.far import Far
>>> from ownlog.patterns import next_letters, pairs
>>> far = Far('abc', [1, 3])
>>> [pairs(far), next_letters(far, 'a'), next_letters(far, 'ccc')]
[[('aa', 2), ('ab', 2), ('ba', 1), ('bc', 1), ('cc', 2)], 'ab', '']
""",
    82: """
>>> from ownlog.far import Far
>>> from ownlog.runs import longest_run, runs_many
>>> far = Far('abc', [1, 3])
>>> [longest_run(far, 'c'), longest_run(far, 'a'), runs_many(far, 'a'), longest_run(far, 'd')]
[(3, 6), (2, 0), 2, (0, None)]
""",
    90: """
>>> from ownlog.wishes import base_stories
>>> [base_stories('ab', 2), base_stories('abc', 2), len(base_stories('ab', 12))]
[[[0], [1]], [[]], 270]
""",
    91: """
>>> from ownlog.tables import shows_no_beginning
>>> from ownlog.wishes import begins
>>> [begins('abc', 'ba'), shows_no_beginning('abc', 'ba', [([], ['a'])]), shows_no_beginning('abc', 'ba', [([], [])])]
[('never', [([], ['a'])]), True, False]
""",
    92: """
>>> from ownlog.wishes import ends
>>> [ends('abc', 'cb'), ends('abc', 'bcc')[0]]
[('never', [([], ['c'])]), 'story']
""",
    93: """
>>> from ownlog.tables import shows_no_place
>>> from ownlog.wishes import stands
>>> [stands('abc', 'ac'), stands('abc', 'ca')[0], shows_no_place('abc', 'ac', [([], [0], [2])])]
[('never', [([], [0], [2])]), 'story', True]
""",
    94: """
>>> from ownlog.wishes import shortest
>>> [shortest('abc', 'aab', 'begin'), shortest('abc', 'ca', 'stand'), shortest('abc', 'ac', 'stand')]
[[1], [0, 3], None]
""",
    95: """
>>> from ownlog.wishes import together
>>> [together('abcd', 'aab', ['dab'], 'cdd')[0], together('abcd', 'aab', ['ac'], 'cdd'), together('abcd', 'a', [], 'ca')]
['story', ('never', 1), ('never', 1)]
""",
    100: """
>>> from ownlog.books import Book
>>> book = Book('aabcc')
>>> [book.call(3), book.row(), book.back(), book.back(), book.row(), book.follow([1, 3]), book.unwind(), book == Book('abc')]
['c', 'aabaabccc', [3], [1], 'abc', 'bc', 2, True]
>>> Book('abc').back()
raises NoElder()
""",
    101: """
>>> from ownlog.far import Far
>>> from ownlog.notation import read_far, read_tally, show_far, show_tally
>>> [show_far(Far('abc', [1, 3])), read_far('ab'), show_tally([('a', 4), ('c', 12)]), read_tally('a4 c12')]
['abc 1 3', Far('ab', []), 'a4 c12', [('a', 4), ('c', 12)]]
>>> read_far('abc 1 5')
raises NoText(2)
""",
    102: """
>>> from ownlog.console import Console
>>> console = Console()
>>> [console.say('row aabcc'), console.say('call 3'), console.say('past'), console.say('unwind'), console.say('show')]
['aabcc', 'c', 'abc 1 3', '2', 'abc']
>>> [console.say('stands ca'), console.say('begins ba'), console.say('tally')]
['yes', 'never', 'a1 b1 c1']
""",
}


class Examples(unittest.TestCase):

    def test_examples(self):
        for point, text in EXAMPLES.items():
            with self.subTest(point=point):
                self.assertEqual(failed_examples(text), [])

    def test_an_example_that_does_not_hold_is_told(self):
        text = ">>> from ownlog.rows import call\n>>> call('abc', 1)\n'abc'\n>>> call('abc', 3)\nraises NoCall(3)"
        self.assertEqual(failed_examples(text), [
            ("call('abc', 1)", "'abc'", "'aabcc'"),
            ("call('abc', 3)", "raises NoCall(3)", "raises NoPlace(3)"),
        ])


if __name__ == "__main__":
    unittest.main()
