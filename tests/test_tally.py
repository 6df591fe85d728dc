"""Calls 16, 18 and 19: the record, the frames that were lost, and those shown twice or oftener."""

import random
import unittest

from tests.helper import CallCase, Desk, ask_all, rows_of, sheet_text, showing

# All six reels, the change cues at 14, 9, 19, 24, 11, and 10 frames of the last one.
SIX_REELS = ("reel 1 frames 20 motor 8 change 14", "reel 2 frames 10 motor 4 change 9",
             "reel 3 frames 90 motor 10 change 19", "reel 4 frames 30 motor 20 change 24",
             "reel 5 frames 12 motor 5 change 11", "reel 6 frames 10 end")
LASTS = (14, 9, 19, 24, 11, 9)


def play(desk, reel, frame, ticks):
    """Power is lost, then the reel is on machine 0 and shows so many frames from this one on."""
    desk.do("power")
    if desk.machine(1).reel == reel:
        desk.do("unthread", 1)
    desk.do("thread", 0, reel, 3 - frame)
    desk.do("go", 0, frame)
    desk.do("tick", 4 + ticks)


class TallyCase(CallCase):
    def record(self, desk, *runs):
        self.tells(desk, [len(runs)] + [number for run in runs for number in run], "record")

    def lost(self, desk, *runs):
        self.tells(desk, [len(runs)] + [number for run in runs for number in run], "lost")

    def twice(self, desk, *runs):
        self.tells(desk, [len(runs)] + [number for run in runs for number in run], "twice")


class NothingYet(TallyCase):
    def test_no_sheet(self):
        for name in ("record", "lost", "twice"):
            self.refused(Desk(), -2, name)

    def test_no_tick(self):
        desk = Desk(sheet_text())
        self.record(desk)
        self.lost(desk, (0, 0, 14), (1, 0, 11))
        self.twice(desk)

    def test_ticks_without_a_frame(self):
        desk = Desk(sheet_text())
        desk.do("thread", 0, 0, 3)
        desk.do("go", 0, 0)
        desk.do("tick", 4)
        self.record(desk)
        self.lost(desk, (0, 0, 14), (1, 0, 11))
        self.twice(desk)

    def test_one_frame(self):
        desk = Desk(sheet_text(reels=("reel 3 frames 1 end",)))
        self.lost(desk, (0, 0, 0))
        play(desk, 0, 0, 1)
        self.record(desk, (5, 0, 0, 0))
        self.lost(desk)
        self.twice(desk)
        play(desk, 0, 0, 1)
        self.twice(desk, (0, 0, 0))

    def test_all_is_new_with_a_new_sheet(self):
        desk = showing()
        desk.do("halt")
        desk.do("sheet", sheet_text(reels=SIX_REELS))
        self.record(desk)
        self.lost(desk, *[(reel, 0, last) for reel, last in enumerate(LASTS)])
        self.twice(desk)


class WholeRuns(TallyCase):
    def test_without_a_fault(self):
        desk = showing()
        self.record(desk, (5, 0, 0, 0))
        self.lost(desk, (0, 1, 14), (1, 0, 11))
        desk.do("tick", 14)
        self.record(desk, (5, 0, 0, 14))
        self.lost(desk, (1, 0, 11))
        desk.do("tick", 1)
        self.record(desk, (5, 0, 0, 14), (20, 1, 0, 0))
        self.lost(desk, (1, 1, 11))
        desk.do("tick", 30)
        self.record(desk, (5, 0, 0, 14), (20, 1, 0, 11))
        self.lost(desk)
        self.twice(desk)

    def test_twice_over(self):
        desk = showing()
        desk.do("tick", 50)
        desk.do("thread", 0, 0, 3)
        desk.do("thread", 1, 1, 5)
        desk.do("go", 0, 0)
        desk.do("tick", 50)
        self.record(desk, (5, 0, 0, 14), (20, 1, 0, 11), (60, 0, 0, 14), (75, 1, 0, 11))
        self.lost(desk)
        self.twice(desk, (0, 0, 14), (1, 0, 11))

    def test_three_times_is_told_once(self):
        desk = Desk(sheet_text())
        for turn in range(3):
            play(desk, 0, 0, 6)
        self.twice(desk, (0, 0, 5))
        play(desk, 0, 3, 6)
        self.twice(desk, (0, 0, 5))
        play(desk, 0, 6, 1)
        self.twice(desk, (0, 0, 6))

    def test_behind_the_change_cue_is_not_to_be_shown(self):
        # Reel 0 has 20 frames, but is shown up to frame 14 only: 15 to 19 are neither lost nor twice.
        desk = Desk(sheet_text())
        play(desk, 0, 0, 15)
        play(desk, 0, 0, 15)
        self.lost(desk, (1, 0, 11))
        self.twice(desk, (0, 0, 14))
        desk.do("tick", 20)
        self.assertEqual(desk.ask("house")[1], 3)
        self.lost(desk, (1, 0, 11))
        self.twice(desk, (0, 0, 14))


class Faults(TallyCase):
    def test_a_go_at_another_frame(self):
        desk = Desk(sheet_text())
        play(desk, 0, 4, 3)
        self.record(desk, (5, 0, 4, 6))
        self.lost(desk, (0, 0, 3), (0, 7, 14), (1, 0, 11))
        self.twice(desk)

    def test_at_the_last_frame(self):
        desk = Desk(sheet_text())
        play(desk, 0, 14, 1)
        self.record(desk, (5, 0, 14, 14))
        self.lost(desk, (0, 0, 13), (1, 0, 11))
        play(desk, 1, 11, 1)
        self.record(desk, (5, 0, 14, 14), (10, 1, 11, 11))
        self.lost(desk, (0, 0, 13), (1, 0, 10))

    def test_frames_shown_twice(self):
        desk = Desk(sheet_text())
        play(desk, 0, 0, 7)
        play(desk, 0, 4, 6)
        self.record(desk, (5, 0, 0, 6), (16, 0, 4, 9))
        self.lost(desk, (0, 10, 14), (1, 0, 11))
        self.twice(desk, (0, 4, 6))

    def test_several_runs_of_one_reel(self):
        desk = Desk(sheet_text())
        for frame, ticks in ((0, 3), (6, 3), (11, 2), (1, 1), (7, 1), (12, 3)):
            play(desk, 0, frame, ticks)
        self.lost(desk, (0, 3, 5), (0, 9, 10), (1, 0, 11))
        self.twice(desk, (0, 1, 1), (0, 7, 7), (0, 12, 12))

    def test_runs_are_as_long_as_they_can_be(self):
        desk = Desk(sheet_text())
        for frame, ticks in ((0, 4), (4, 4), (2, 6), (0, 2)):
            play(desk, 0, frame, ticks)
        self.assertEqual(len(rows_of(desk.ask("record"), 4)), 4)
        self.lost(desk, (0, 8, 14), (1, 0, 11))
        self.twice(desk, (0, 0, 7))

    def test_other_numbers_of_showings_side_by_side(self):
        desk = Desk(sheet_text())
        for frame, ticks in ((2, 8), (2, 8), (4, 2), (4, 2), (8, 4)):
            play(desk, 0, frame, ticks)
        self.twice(desk, (0, 2, 9))
        self.lost(desk, (0, 0, 1), (0, 12, 14), (1, 0, 11))

    def test_a_gap_of_dark_ticks(self):
        desk = Desk(sheet_text())
        play(desk, 0, 0, 6)
        desk.do("power")
        desk.do("tick", 3)
        play(desk, 0, 6, 2)
        self.record(desk, (5, 0, 0, 5), (18, 0, 6, 7))
        self.assertEqual(desk.ask("house")[5], 7)
        self.lost(desk, (0, 8, 14), (1, 0, 11))
        self.twice(desk)

    def test_without_a_gap_the_run_goes_on(self):
        desk = showing(strike=0)
        desk.do("halt")
        desk.do("go", 0, 1)
        desk.do("tick", 2)
        self.record(desk, (5, 0, 0, 2))
        self.assertEqual(desk.ask("house")[5], 0)

    def test_the_lamp_goes_out_and_the_show_goes_on(self):
        desk = showing()
        desk.do("tick", 3)
        desk.do("lampout", 0)
        desk.do("tick", 4)
        self.assertEqual(desk.motion(0), (0, 0, 4))
        desk.do("mend", 0)
        self.assertEqual(desk.ask("inch", 0, -2), [0, 2])
        desk.do("go", 0, 5)
        desk.do("tick", 40)
        self.record(desk, (5, 0, 0, 3), (17, 0, 5, 14), (27, 1, 0, 11))
        self.lost(desk, (0, 4, 4))
        self.twice(desk)
        self.assertEqual(desk.ask("house"), [52, 4, 1, 5, 0, 8])

    def test_six_reels_in_the_order_of_the_sheet(self):
        desk = Desk(sheet_text(reels=SIX_REELS))
        for reel in (4, 1, 5, 0, 3, 2):
            play(desk, reel, 2, 5)
            play(desk, reel, 3, 5)
        self.assertEqual([run[1] for run in rows_of(desk.ask("record"), 4)], [4, 4, 1, 1, 5, 5, 0, 0, 3, 3, 2, 2])
        self.lost(desk, *[row for reel, last in enumerate(LASTS) for row in ((reel, 0, 1), (reel, 8, last))])
        self.twice(desk, *[(reel, 3, 6) for reel in range(6)])

    def test_by_one_list(self):
        given = ask_all(("sheet", sheet_text()), ("record",), ("lost",), ("twice",), ("thread", 0, 0, -1), ("go", 0, 4),
                        ("tick", 9), ("power",), ("thread", 0, 0, -4), ("go", 0, 7), ("tick", 6), ("record",), ("lost",),
                        ("twice",))
        self.assertEqual(given[1:4], [[0], [2, 0, 0, 14, 1, 0, 11], [0]])
        self.assertEqual(given[-3:], [[2, 5, 0, 4, 8, 14, 0, 7, 8], [3, 0, 0, 3, 0, 9, 14, 1, 0, 11], [1, 0, 7, 8]])


class FrameByFrame(TallyCase):
    """Against a count of each frame that the screen told, over shows that go as they go; a written seed."""

    def spans(self, counts, holds):
        rows = []
        for reel, last in enumerate(LASTS):
            for frame in range(last + 1):
                if holds(counts.get((reel, frame), 0)):
                    if frame > 0 and rows and rows[-1][0] == reel and rows[-1][2] == frame - 1:
                        rows[-1] = (reel, rows[-1][1], frame)
                    else:
                        rows.append((reel, frame, frame))
        return rows

    def look(self, desk, seen):
        counts = {}
        runs = []
        for tick, reel, frame in seen:
            counts[reel, frame] = counts.get((reel, frame), 0) + 1
            if runs and (tick, reel, frame) == (runs[-1][0] + frame - runs[-1][2], runs[-1][1], runs[-1][3] + 1):
                runs[-1] = runs[-1][:3] + (frame,)
            else:
                runs.append((tick, reel, frame, frame))
        self.record(desk, *runs)
        self.lost(desk, *self.spans(counts, lambda times: times == 0))
        self.twice(desk, *self.spans(counts, lambda times: times > 1))
        return len(self.spans(counts, lambda times: times > 1))

    def show(self, seed):
        source = random.Random(seed)
        desk = Desk(sheet_text(reels=SIX_REELS))
        seen = []
        told = 0
        for turn in range(30):
            reel = source.randrange(6)
            if source.randrange(2):
                play(desk, reel, source.randrange(LASTS[reel] + 1), 0)
            else:
                desk.ask(source.choice(("halt", "power")))
                desk.ask("go", source.randrange(2), source.randrange(10))
            if source.randrange(3) > 0 and desk.machine(0).reel < 5:
                desk.ask("thread", 1, desk.machine(0).reel + 1, desk.ask("lead", desk.machine(0).reel + 1)[0])
            for tick in range(source.randrange(30)):
                desk.do("tick", 1)
                screen = desk.ask("screen")
                if screen[0] == 1:
                    seen.append((desk.house.ticks, screen[1], screen[2]))
            told += self.look(desk, seen)
        return told

    def test_shows(self):
        self.assertGreater(sum(self.show(seed) for seed in range(60)), 1000)


if __name__ == "__main__":
    unittest.main()
