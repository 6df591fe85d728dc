"""Cue sheets: the text, the forms, the ranges, the leads, what is wrong and where, and how it is shown."""

import unittest

from tests.helper import FAR, Desk, ask_all, ask_last, codes, sheet_text

HEAD = "up 4\nstrike 2\ndown 3\nleader 10\n"
CUES = "reel 7 frames 20 motor 8 change 14\n"
END = "reel 3 frames 12 end\n"


def reel(name, frames=20, motor=8, change=14):
    return f"reel {name} frames {frames} motor {motor} change {change}"


class SheetCase(unittest.TestCase):
    def right(self, text, reels):
        self.assertEqual(ask_last(("sheet", text)), [0, reels], text)

    def wrong(self, text, line, what):
        self.assertEqual(ask_last(("sheet", text)), [1, line, what], text)


class Reading(SheetCase):
    def test_right_sheets(self):
        self.right(HEAD + CUES + END, 2)
        self.right(HEAD + END, 1)
        self.right(HEAD + reel(1) + "\n" + reel(2) + "\n" + END, 3)

    def test_no_line_feed_at_the_end(self):
        self.right((HEAD + CUES + END)[:-1], 2)

    def test_blanks_and_lines_without_words(self):
        self.right("\n  \n   up   4  \n\nstrike 2\n down 3\nleader  10 \n \n  reel 3   frames 12  end   \n\n \n", 1)

    def test_lines_without_words_are_counted(self):
        self.wrong("\n \nup 1\n", 3, 2)
        self.wrong(HEAD + "\n\n" + "what\n", 7, 1)

    def test_only_blanks_part_words(self):
        for sign in ("\t", "\r", "\0", "\x0b", "\xa0", "\xff", "\x1f", "!"):
            self.wrong("up" + sign + "4\n" + HEAD[5:] + END, 1, 1)
            self.wrong("up 4" + sign + "\n" + HEAD[5:] + END, 1, 1)
            self.wrong(sign + "up 4\n" + HEAD[5:] + END, 1, 1)
            self.wrong(HEAD + END + sign, 6, 1)

    def test_only_line_feeds_part_lines(self):
        self.wrong("up 4\rstrike 2\rdown 3\rleader 10\rreel 3 frames 12 end", 1, 1)
        self.wrong("up 4 strike 2\n", 1, 1)

    def test_forms_of_settings(self):
        for row in ("up", "up 4 4", "Up 4", "UP 4", "ups 4", "u 4", "4 up", "4", "up four", "up N", "up -4", "up +4",
                    "up 4.", "up 4a", "up a4", "up ,4", "up /", "up :", "up 1/", "up 1:", "up4"):
            self.wrong(row + "\n" + HEAD[5:] + END, 1, 1)
        self.wrong("up 4\nstrikes 2\n", 2, 1)
        self.wrong("up 4\nstrike 2\ndawn 3\n", 3, 1)
        self.wrong("up 4\nstrike 2\ndown 3\nlead 3\n", 4, 1)

    def test_forms_of_reels(self):
        for row in ("reel", "reel 1", "reel 1 frames", "reel 1 frames 20", "reel 1 frames 20 ends", "reel 1 frames 20 End",
                    "reel 1 frames 20 end end", "reel 1 frames 20 motor 8", "reel 1 frames 20 motor 8 change",
                    "reel 1 frames 20 motor 8 change 14 end", "reel 1 frames 20 change 14 motor 8",
                    "reel 1 frames 20 motor 8 end", "reel 1 frames 20 motor 8 change 14 15",
                    "frames 20 reel 1 end", "Reel 1 frames 20 end", "reel 1 frame 20 end", "reel x frames 20 end",
                    "reel 1 frames x end", "reel 1 frames 20 motor x change 14", "reel 1 frames 20 motor 8 change x",
                    "reel 1 frames 20 motors 8 change 14", "reel 1 frames 20 motor 8 changes 14"):
            self.wrong(HEAD + row + "\n", 5, 1)

    def test_numbers(self):
        self.wrong("up 04\n", 1, 1)
        self.wrong("up 00\n", 1, 1)
        self.wrong("up 0004\n", 1, 1)
        self.wrong("up 0\n", 1, 2)
        self.wrong("up 9999\n", 1, 2)
        self.wrong("up 10000\n", 1, 1)
        self.wrong("up 00004\n", 1, 1)
        self.wrong("up " + "9" * 900 + "\n", 1, 1)
        self.right("up 4\nstrike 0\ndown 0\nleader 10\n" + END, 1)
        self.wrong("up 4\nstrike 00\n", 2, 1)
        self.wrong(HEAD + "reel 03 frames 12 end\n", 5, 1)
        self.wrong(HEAD + "reel 3 frames 012 end\n", 5, 1)
        self.wrong(HEAD + "reel 3 frames 12000 end\n", 5, 1)
        self.wrong(HEAD + "reel 7 frames 20 motor 08 change 14\n", 5, 1)
        self.wrong(HEAD + "reel 7 frames 20 motor 8 change 00014\n", 5, 1)
        for digit in "23456789":
            self.right(HEAD + f"reel {digit} frames 1{digit} end", 1)


class Ranges(SheetCase):
    def setUp(self):
        self.reels = ("reel 7 frames 200 motor 80 change 140", "reel 3 frames 12 end")

    def test_up(self):
        for up in (2, 3, 47, 48):
            self.right(sheet_text(up=up, leader=96, reels=self.reels), 2)
        for up in (0, 1, 49, 9999):
            self.wrong(sheet_text(up=up, leader=96, reels=self.reels), 1, 2)

    def test_strike(self):
        for strike in (0, 1, 47, 48):
            self.right(sheet_text(strike=strike, leader=96, reels=self.reels), 2)
        for strike in (49, 50, 9999):
            self.wrong(sheet_text(strike=strike, leader=96, reels=self.reels), 2, 2)

    def test_down(self):
        for down in (0, 1, 47, 48):
            self.right(sheet_text(down=down, leader=96, reels=self.reels), 2)
        for down in (49, 50, 9999):
            self.wrong(sheet_text(down=down, leader=96, reels=self.reels), 3, 2)

    def test_leader(self):
        for leader in (60, 95, 96):
            self.right(sheet_text(leader=leader, reels=self.reels), 2)
        for leader in (0, 97, 9999):
            self.wrong(sheet_text(leader=leader, reels=self.reels), 4, 2)

    def test_least_leader_is_right_but_no_first_reel_is(self):
        self.wrong("up 2\nstrike 0\ndown 0\nleader 1\n", 6, 3)
        self.wrong("up 2\nstrike 0\ndown 0\nleader 1\n" + END, 5, 5)
        self.right("up 2\nstrike 0\ndown 0\nleader 2\n" + END, 1)

    def test_name(self):
        for name in (1, 2, 98, 99):
            self.right(HEAD + f"reel {name} frames 12 end", 1)
            self.right(HEAD + reel(name) + "\nreel 50 frames 1 end", 2)
        for name in (0, 100, 9999):
            self.wrong(HEAD + f"reel {name} frames 12 end", 5, 2)
            self.wrong(HEAD + reel(name), 5, 2)

    def test_frames(self):
        for frames in (1, 2, 1999, 2000):
            self.right(HEAD + f"reel 3 frames {frames} end", 1)
        for frames in (0, 2001, 9999):
            self.wrong(HEAD + f"reel 3 frames {frames} end", 5, 2)
            self.wrong(HEAD + reel(3, frames), 5, 2)
        self.right(HEAD + reel(1, 2000) + "\n" + END, 2)
        self.wrong(HEAD + reel(1, 1), 5, 5)

    def test_cues(self):
        self.right(HEAD + reel(1, 2000, 0, 4) + "\n" + END, 2)
        self.right(HEAD + reel(1, 2000, 1995, 1999) + "\n" + END, 2)
        self.wrong(HEAD + reel(1, 2000, 1996, 2000), 5, 5)
        self.wrong(HEAD + reel(1, 2000, 2000, 2000), 5, 5)
        self.wrong(HEAD + reel(1, 2000, 0, 0), 5, 5)
        self.wrong(HEAD + reel(1, 2000, 1996, 2001), 5, 2)
        self.wrong(HEAD + reel(1, 2000, 2001, 2000), 5, 2)
        self.wrong(HEAD + reel(1, 2000, 9999, 10), 5, 2)


class Places(SheetCase):
    def test_settings_not_in_their_places(self):
        self.wrong("strike 2\n", 1, 3)
        self.wrong("down 2\n", 1, 3)
        self.wrong("leader 2\n", 1, 3)
        self.wrong("up 4\nup 4\n", 2, 3)
        self.wrong("up 4\ndown 3\n", 2, 3)
        self.wrong("up 4\nleader 3\n", 2, 3)
        self.wrong("up 4\nstrike 2\nstrike 2\n", 3, 3)
        self.wrong("up 4\nstrike 2\nup 2\n", 3, 3)
        self.wrong("up 4\nstrike 2\nleader 10\n", 3, 3)
        self.wrong("up 4\nstrike 2\ndown 3\ndown 3\n", 4, 3)
        self.wrong(HEAD + "leader 10\n", 5, 3)
        self.wrong(HEAD + "up 4\n", 5, 3)
        self.wrong(HEAD + CUES + "up 4\n", 6, 3)
        self.wrong(HEAD + CUES + END + "leader 10\n", 7, 3)

    def test_a_reel_ahead_of_the_settings(self):
        self.wrong(CUES, 1, 3)
        self.wrong(END, 1, 3)
        self.wrong("up 4\nstrike 2\ndown 3\n" + CUES, 4, 3)
        self.wrong("up 4\nstrike 2\ndown 3\n" + END, 4, 3)

    def test_a_reel_behind_the_one_that_ends(self):
        self.wrong(HEAD + END + CUES, 6, 3)
        self.wrong(HEAD + END + "reel 4 frames 12 end\n", 6, 3)
        self.wrong(HEAD + CUES + END + "\n" + "reel 9 frames 1 end", 8, 3)

    def test_no_reel_ends(self):
        self.wrong("", 2, 3)
        self.wrong(" ", 2, 3)
        self.wrong("\n", 3, 3)
        self.wrong("\n\n \n", 5, 3)
        self.wrong("up 4", 2, 3)
        self.wrong(HEAD, 6, 3)
        self.wrong(HEAD[:-1], 5, 3)
        self.wrong(HEAD + CUES, 7, 3)
        self.wrong((HEAD + CUES)[:-1], 6, 3)
        six = "\n".join(reel(name) for name in range(1, 7))
        self.wrong(HEAD + six, 11, 3)

    def test_names_that_are_there_already(self):
        self.wrong(HEAD + CUES + "reel 7 frames 12 end\n", 6, 4)
        self.wrong(HEAD + CUES + CUES, 6, 4)
        self.wrong(HEAD + CUES + reel(8) + "\n" + CUES, 7, 4)
        self.wrong(HEAD + CUES + reel(8) + "\n" + "reel 8 frames 12 end", 7, 4)

    def test_six_reels_and_a_seventh(self):
        five = "".join(reel(name) + "\n" for name in range(1, 6))
        self.right(HEAD + five + "reel 6 frames 12 end\n", 6)
        self.wrong(HEAD + five + reel(6) + "\n" + "reel 8 frames 12 end\n", 11, 4)
        self.wrong(HEAD + five + reel(6) + "\n" + reel(8) + "\n", 11, 4)
        self.wrong(HEAD + five + "reel 6 frames 12 end\n" + reel(8) + "\n", 11, 3)


class Cues(SheetCase):
    def test_motor_and_change_and_frames(self):
        self.wrong(HEAD + reel(7, 20, 14, 14), 5, 5)
        self.wrong(HEAD + reel(7, 20, 15, 14), 5, 5)
        self.wrong(HEAD + reel(7, 14, 8, 14), 5, 5)
        self.wrong(HEAD + reel(7, 13, 8, 14), 5, 5)
        self.right(HEAD + reel(7, 15, 8, 14) + "\n" + END, 2)

    def test_time_for_the_motor(self):
        for up in (2, 3, 4, 5, 8):
            head = f"up {up}\nstrike 0\ndown 3\nleader 10\n"
            self.right(head + reel(7, 40, 10, 10 + up) + "\n" + END, 2)
            self.wrong(head + reel(7, 40, 10, 10 + up - 1) + "\n" + END, 5, 5)

    def test_time_for_the_lamp(self):
        head = "up 4\nstrike 7\ndown 3\nleader 20\n"
        self.right(head + reel(7, 40, 10, 17) + "\n" + END, 2)
        self.wrong(head + reel(7, 40, 10, 16) + "\n" + END, 5, 5)
        head = "up 4\nstrike 4\ndown 3\nleader 20\n"
        self.right(head + reel(7, 40, 10, 14) + "\n" + END, 2)
        self.wrong(head + reel(7, 40, 10, 13) + "\n" + END, 5, 5)

    def test_lead_of_the_first_reel(self):
        # up, strike, the lead
        for up, strike, lead in ((4, 2, 3), (5, 5, 3), (2, 0, 2), (3, 0, 2), (4, 4, 3), (4, 5, 4), (5, 9, 7),
                                 (48, 48, 25), (2, 48, 48), (3, 48, 47)):
            head = f"up {up}\nstrike {strike}\ndown 3\n"
            self.right(head + f"leader {lead}\n" + END, 1)
            self.wrong(head + f"leader {lead - 1}\n" + END, 5, 5)

    def test_lead_of_the_first_reel_where_it_has_cues(self):
        head = "up 4\nstrike 9\ndown 3\n"
        self.wrong(head + "leader 7\n" + reel(7, 40, 10, 19) + "\n" + END, 5, 5)
        self.right(head + "leader 8\n" + reel(7, 40, 10, 19) + "\n" + END, 2)

    def test_lead_of_the_next_reel(self):
        for up, gap, lead in ((4, 4, 3), (4, 6, 5), (5, 5, 3), (5, 6, 4), (5, 20, 18), (2, 90, 90)):
            head = f"up {up}\nstrike 0\ndown 3\n"
            row = reel(7, 400, 100, 100 + gap) + "\n"
            self.right(head + f"leader {lead}\n" + row + END, 2)
            self.wrong(head + f"leader {lead - 1}\n" + row + END, 5, 5)
            self.wrong(head + f"leader {lead}\n" + row + reel(8, 400, 100, 101 + gap) + "\n" + END, 6, 5)


class ToldFirst(SheetCase):
    def test_the_first_line(self):
        self.wrong("up 4\nstrike 49\nwhat\n", 2, 2)
        self.wrong(HEAD + reel(7, 14) + "\nwhat\n", 5, 5)
        self.wrong(HEAD + CUES + CUES + "what", 6, 4)

    def test_no_form_ahead_of_all(self):
        self.wrong("reel 0 frames 99999 end\n", 1, 1)
        self.wrong(HEAD + END + "reel 3 frames 0 ends\n", 6, 1)
        self.wrong(HEAD + END + "reel 3 frames 0 motor 07 change 3\n", 6, 1)

    def test_range_ahead_of_place(self):
        self.wrong("leader 97\n", 1, 2)
        self.wrong("reel 100 frames 12 end\n", 1, 2)
        self.wrong(HEAD + END + reel(7, 2001), 6, 2)
        self.wrong(HEAD + "up 49", 5, 2)

    def test_range_ahead_of_name_and_cues(self):
        self.wrong(HEAD + CUES + reel(7, 2001), 6, 2)
        self.wrong(HEAD + reel(7, 20, 2001, 14), 5, 2)

    def test_place_ahead_of_name_and_cues(self):
        self.wrong(HEAD + END + END, 6, 3)
        self.wrong(HEAD + END + reel(7, 14), 6, 3)
        self.wrong(reel(7, 14), 1, 3)

    def test_name_ahead_of_cues(self):
        self.wrong(HEAD + CUES + reel(7, 14), 6, 4)
        six = "".join(reel(name) + "\n" for name in range(1, 7))
        self.wrong(HEAD + six + reel(8, 14), 11, 4)


class Texts(unittest.TestCase):
    def test_a_thousand_numbers(self):
        text = codes(sheet_text())
        text = text + [32] * (1000 - len(text))
        self.assertEqual(ask_last(("sheet", text)), [0, 2])
        self.assertEqual(ask_last(("sheet", text + [32])), [-1])
        self.assertEqual(ask_last(("sheet", text + [10] * 100)), [-1])
        self.assertEqual(ask_last(("sheet", [10] * 1000)), [1, 1002, 3])
        self.assertEqual(ask_last(("sheet", [10] * 1001)), [-1])
        self.assertEqual(ask_last(("sheet", [])), [1, 2, 3])

    def test_numbers_that_are_no_bytes(self):
        text = codes(sheet_text())
        for code in (-1, 256, -FAR, FAR, 10 + 256, 32 - 256):
            self.assertEqual(ask_last(("sheet", text + [code])), [-1])
            self.assertEqual(ask_last(("sheet", [code] + text)), [-1])
            self.assertEqual(ask_last(("sheet", [code])), [-1])
        for code in (0, 255):
            self.assertEqual(ask_last(("sheet", text + [code])), [1, 7, 1])

    def test_no_bytes_ahead_of_wrong_lines(self):
        self.assertEqual(ask_last(("sheet", codes("what\n") + [256])), [-1])


class Shown(unittest.TestCase):
    def shown(self, text):
        answer = ask_last(("sheet", text), ("shown",))
        self.assertEqual(answer[0], len(answer) - 1)
        return "".join(chr(code) for code in answer[1:])

    def test_as_it_stands(self):
        for text in (sheet_text(), HEAD + END, sheet_text(up=48, strike=0, down=48, leader=96, reels=(
                "reel 99 frames 2000 motor 0 change 60", "reel 1 frames 1 end"))):
            self.assertEqual(self.shown(text), text)

    def test_blanks_and_lines_without_words_are_gone(self):
        text = "\n\n  up    4\n strike 2 \ndown 3\n \nleader 10\n" + "   " + CUES + "\n" + "reel  3 frames 12    end"
        self.assertEqual(self.shown(text), HEAD + CUES + END)
        self.assertEqual(self.shown(self.shown(text)), HEAD + CUES + END)

    def test_six_reels(self):
        text = HEAD + "".join(reel(name) + "\n" for name in (9, 3, 5, 1, 2)) + "reel 8 frames 12 end\n"
        self.assertEqual(self.shown(text), text)

    def test_the_newest_right_sheet_is_shown(self):
        other = HEAD + END
        given = ask_all(("sheet", sheet_text()), ("sheet", other), ("sheet", "what"), ("sheet", [256]), ("shown",))
        self.assertEqual(given[:-1], [[0, 2], [0, 1], [1, 1, 1], [-1]])
        self.assertEqual(given[-1], [len(other)] + codes(other))

    def test_no_sheet_to_show(self):
        self.assertEqual(ask_all(("shown",)), [[-2]])
        self.assertEqual(ask_all(("sheet", "what"), ("shown",)), [[1, 1, 1], [-2]])


class SheetCall(unittest.TestCase):
    def test_a_new_house(self):
        machine = {"reel": -1, "place": 0, "motor": False, "lamp": False, "phase": 0, "count": 0, "glow": 0,
                   "told": False, "douser": False, "seized": False, "torn": False, "dead": False}
        house = {"sheet": None, "machines": [machine, machine], "ticks": 0, "mode": 0, "active": 0, "target": 0,
                 "reason": 0, "log": [], "runs": [], "dark_ticks": 0}
        self.assertEqual(Desk().snapshot(), house)
        desk = Desk(sheet_text())
        house["sheet"] = desk.snapshot()["sheet"]
        self.assertEqual(desk.snapshot(), house)

    def test_all_is_new(self):
        desk = Desk(sheet_text())
        desk.do("thread", 0, 0, 3)
        desk.do("go", 0, 0)
        desk.do("tick", 12)
        desk.do("seize", 1)
        desk.do("lampout", 1)
        desk.do("halt")
        desk.do("tick", 3)
        self.assertEqual(desk.ask("sheet", sheet_text(up=6)), [0, 2])
        self.assertEqual(desk.snapshot(), Desk(sheet_text(up=6)).snapshot())

    def test_a_wrong_sheet_changes_nothing(self):
        desk = Desk(sheet_text())
        desk.do("thread", 0, 0, 3)
        desk.do("tick", 2)
        before = desk.snapshot()
        for text in ("", "what", sheet_text(up=1), sheet_text() + "up 4", sheet_text(leader=2)):
            self.assertEqual(desk.ask("sheet", text)[0], 1)
            self.assertEqual(desk.snapshot(), before)

    def test_going(self):
        desk = Desk(sheet_text())
        desk.do("thread", 0, 0, 3)
        desk.do("go", 0, 0)
        for ticks in (1, 10):
            before = desk.snapshot()
            self.assertEqual(desk.ask("sheet", sheet_text()), [-3])
            self.assertEqual(desk.ask("sheet", "what"), [-3])
            self.assertEqual(desk.ask("sheet", [256]), [-1])
            self.assertEqual(desk.ask("sheet", [32] * 1001), [-1])
            self.assertEqual(desk.snapshot(), before)
            desk.do("tick", ticks)
        desk.do("halt")
        self.assertEqual(desk.ask("sheet", sheet_text()), [0, 2])


if __name__ == "__main__":
    unittest.main()
