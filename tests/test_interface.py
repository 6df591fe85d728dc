"""`twoprojectors.booth.answers`: the list handed in, the list given back, and that nothing is kept."""

import inspect
import time
import unittest

from twoprojectors import booth

from tests.helper import FAR, NAMES, as_list, codes, joined, parted, sheet_text

SHOW = (("sheet", sheet_text()), ("shown",), ("thread", 0, 0, 3), ("thread", 1, 1, 5), ("go", 0, 0), ("tick", 9),
        ("screen",), ("machine", 0), ("halt",), ("tick", 9), ("unthread", 0), ("seize", 1), ("tear", 1), ("lampout", 1),
        ("machine", 1), ("mend", 1), ("power",), ("inch", 1, 4), ("house",), ("screen",), ("record",), ("log",), ("lost",),
        ("twice",), ("plan",), ("lead", 1), ("reel", 0), ("reel", 1), ("free",), ("machine", 0),
        ("tick", FAR), ("thread", -FAR, FAR, FAR), ("inch", FAR, -FAR), ("machine", -FAR), ("lead", FAR), ("reel", -FAR))

# Six reels of 2000 frames, all of them to be shown.
LONGEST = sheet_text(leader=96, reels=["reel %d frames 2000 motor 1950 change 1999" % name for name in range(1, 6)]
                     + ["reel 6 frames 2000 end"])


class Interface(unittest.TestCase):
    def test_its_argument(self):
        self.assertEqual(list(inspect.signature(booth.answers).parameters), ["calls"])

    def test_the_form_of_both_lists(self):
        text = codes(sheet_text())
        calls = [2, 0, 0, 3, 0, len(text)] + text + [1, 0, 2, 117, 112, 2, 0, 0, 3, 2, 1, 1, 5, 3, 1, 4, 0, 0, 6, 9,
                                                     7, 1, 8, 0, 9, 1, 10, 1, 5, 5, 11, 6, 0]
        given = [1, -2, 2, 0, 2, 1 + len(text), len(text)] + text + [3, 1, 1, 1, 1, 0, 1, 0, 1, 0, 1, 0, 2, 9, 2,
                                                                   1, 0, 1, 0, 1, 0, 1, 0, 1, 0, 1, -3, 1, 0, 1, -1]
        self.assertEqual(booth.answers(calls), given)

    def test_the_form_of_calls_12_to_23(self):
        text = codes(sheet_text())
        begin = [0, len(text)] + text + [2, 0, 0, 3, 4, 0, 0, 6, 7]
        calls = [12, 1, 4, 2, 1, 1, 5, 12, 1, 4, 13, 0, 14, 15, 16, 17, 18, 19, 20, 21, 1, 22, 0, 23, 22, 2]
        given = [2, 0, 2, 1, 0, 1, 0, 2, 7, 2] + [
            1, -6, 1, 0, 2, 0, -1, 9, 0, 2, 1, 2, 1, 1, 0, 0, 0, 6, 7, 2, 0, 0, 0, 0, 3, 1, 0, 2, 5, 1, 5, 0, 0, 2,
            4, 1, 5, 3, 0, 7, 2, 0, 3, 14, 1, 0, 11, 1, 0, 4, 5, 19, 20, 31, 1, 5, 6, 7, 20, 8, 14, 0, 14, 2, 0, 1,
            1, -1]
        self.assertEqual(booth.answers(begin + calls), given)

    def test_every_call_is_in_the_line(self):
        self.assertEqual(sorted({NAMES.index(call[0]) for call in SHOW}), list(range(24)))

    def test_every_call_is_read_whole(self):
        for call in SHOW[1:]:
            calls = as_list("sheet", sheet_text()) + as_list(*call) + as_list("tick", 1)
            given = booth.answers(calls)
            self.assertEqual(given[-3], 2, call)
            self.assertEqual(given[-2], 10 if call == ("tick", 9) else 1, call)

    def test_an_empty_text(self):
        self.assertEqual(booth.answers([0, 0, 0, 0]), [3, 1, 2, 3, 3, 1, 2, 3])

    def test_whole_numbers_in_a_list(self):
        given = booth.answers(joined(SHOW))
        self.assertIs(type(given), list)
        for number in given:
            self.assertIs(type(number), int)

    def test_what_is_handed_in_is_not_changed(self):
        calls = joined(SHOW)
        before = list(calls)
        given = booth.answers(calls)
        self.assertEqual(calls, before)
        given.append(1)
        given[0] = 7
        self.assertEqual(calls, before)

    def test_nothing_is_kept(self):
        lists = (joined(SHOW), joined(SHOW[1:]), [1], [6, 1], joined(SHOW[:6]), joined([("sheet", "what"), ("shown",)]))
        alone = [booth.answers(calls) for calls in lists]
        for first in range(len(lists)):
            for second in range(len(lists)):
                self.assertEqual(booth.answers(lists[first]), alone[first])
                self.assertEqual(booth.answers(lists[second]), alone[second])
        self.assertEqual(alone[2], [1, -2])

    def test_longest_lists(self):
        text = codes(sheet_text())
        begin = joined((("sheet", sheet_text()), ("thread", 0, 0, 3), ("thread", 1, 1, 5)))
        given = booth.answers(begin + [6, 500] * 397)
        self.assertEqual(given[-3:], [2, 397 * 500, 0])
        given = booth.answers((as_list("sheet", text + [32] * (1100 - len(text)))) * 14 + as_list("sheet", text))
        self.assertEqual(given, [1, -1] * 14 + [2, 0, 2])

    def in_time(self, calls):
        begin = time.perf_counter()
        given = parted(booth.answers(joined(calls)))
        # Some tenths of a second are asked for: only a far slower way would need so long.
        self.assertLess(time.perf_counter() - begin, 15)
        self.assertEqual(len(given), len(calls))
        return given

    def test_many_ticks(self):
        begin = [("sheet", LONGEST), ("thread", 0, 0, 3), ("thread", 1, 1, 48), ("go", 0, 0)]
        given = self.in_time(begin + [("tick", 500)] * 396)
        self.assertEqual(given[-1], [396 * 500, 3])
        given = self.in_time([("sheet", LONGEST)] + [("tick", 500), ("house",), ("free",)] * 133)
        self.assertEqual(given[-3:], [[133 * 500, 0], [133 * 500, 0, 0, 0, 0, 0], [1, 1]])

    def test_a_whole_show_of_the_longest_sheet(self):
        calls = [("sheet", LONGEST), ("plan",), ("thread", 0, 0, 3), ("thread", 1, 1, 48), ("go", 0, 0),
                 ("tick", 10)]
        for reel in range(2, 6):
            calls.extend([("tick", 500)] * 4 + [("thread", reel % 2, reel, 48)])
        calls.extend([("tick", 500)] * 10 + [("record",), ("lost",), ("twice",), ("house",)])
        given = self.in_time(calls)
        self.assertEqual(given[1], [tick for reel in range(6) for tick in (5 + 2000 * reel, 2004 + 2000 * reel)])
        runs = [number for reel in range(6) for number in (5 + 2000 * reel, reel, 0, 1999)]
        self.assertEqual(given[-4:], [[6] + runs, [0], [0], [13010, 4, 1, 0, 0, 0]])

    def test_lost_and_twice_asked_often(self):
        calls = [("sheet", LONGEST)]
        for turn in range(66):
            calls.extend([("power",), ("thread", 0, turn % 6, 3 - 20 * turn), ("go", 0, 20 * turn), ("tick", 500),
                          ("lost",), ("twice",)])
        given = self.in_time(calls)
        self.assertEqual(given[-2][:4], [11, 0, 1696, 1999])
        given = self.in_time(calls[:79] + [("lost",), ("twice",), ("record",)] * 107)
        self.assertEqual(given[-3:], given[-6:-3])


if __name__ == "__main__":
    unittest.main()
