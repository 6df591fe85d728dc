"""`twoprojectors.booth.answers`: the list handed in, the list given back, and that nothing is kept."""

import inspect
import unittest

from twoprojectors import booth

from tests.helper import FAR, as_list, codes, joined, sheet_text

SHOW = (("sheet", sheet_text()), ("shown",), ("thread", 0, 0, 3), ("thread", 1, 1, 5), ("go", 0, 0), ("tick", 9),
        ("halt",), ("tick", 9), ("unthread", 0), ("seize", 1), ("tear", 1), ("lampout", 1), ("mend", 1), ("power",),
        ("tick", FAR), ("thread", -FAR, FAR, FAR))


class Interface(unittest.TestCase):
    def test_its_argument(self):
        self.assertEqual(list(inspect.signature(booth.answers).parameters), ["calls"])

    def test_the_form_of_both_lists(self):
        text = codes(sheet_text())
        calls = [2, 0, 0, 3, 0, len(text)] + text + [1, 0, 2, 117, 112, 2, 0, 0, 3, 2, 1, 1, 5, 3, 1, 4, 0, 0, 6, 9,
                                                     7, 1, 8, 0, 9, 1, 10, 1, 5, 5, 11, 6, 0]
        given = [1, -2, 2, 0, 2, 1 + len(text), len(text)] + text + [3, 1, 1, 1, 1, 0, 1, 0, 1, 0, 1, 0, 2, 9, 2,
                                                                   1, 0, 1, 0, 1, 0, 1, 0, 1, 0, 1, -3, 1, 0, 1, -1]
        self.assertEqual(booth.answers(calls), given)

    def test_every_call_is_read_whole(self):
        for call in SHOW[1:]:
            calls = as_list("sheet", sheet_text()) + as_list(*call) + as_list("tick", 1)
            given = booth.answers(calls)
            self.assertEqual(given[-3], 2, call)
            self.assertEqual(given[-2], 10 if call == ("tick", 9) else 1, call)

    def test_an_empty_text(self):
        self.assertEqual(booth.answers([0, 0, 0, 0]), [3, 1, 2, 3, 3, 1, 2, 3])

    def test_whole_numbers_in_a_list(self):
        given = booth.answers(joined(SHOW))
        self.assertIs(type(given), list)
        for number in given:
            self.assertIs(type(number), int)

    def test_what_is_handed_in_is_not_changed(self):
        calls = joined(SHOW)
        before = list(calls)
        given = booth.answers(calls)
        self.assertEqual(calls, before)
        given.append(1)
        given[0] = 7
        self.assertEqual(calls, before)

    def test_nothing_is_kept(self):
        lists = (joined(SHOW), joined(SHOW[1:]), [1], [6, 1], joined(SHOW[:6]), joined([("sheet", "what"), ("shown",)]))
        alone = [booth.answers(calls) for calls in lists]
        for first in range(len(lists)):
            for second in range(len(lists)):
                self.assertEqual(booth.answers(lists[first]), alone[first])
                self.assertEqual(booth.answers(lists[second]), alone[second])
        self.assertEqual(alone[2], [1, -2])

    def test_longest_lists(self):
        text = codes(sheet_text())
        begin = joined((("sheet", sheet_text()), ("thread", 0, 0, 3), ("thread", 1, 1, 5)))
        given = booth.answers(begin + [6, 500] * 397)
        self.assertEqual(given[-3:], [2, 397 * 500, 0])
        given = booth.answers((as_list("sheet", text + [32] * (1100 - len(text)))) * 14 + as_list("sheet", text))
        self.assertEqual(given, [1, -1] * 14 + [2, 0, 2])


if __name__ == "__main__":
    unittest.main()
