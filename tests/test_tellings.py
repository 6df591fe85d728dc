"""Calls 13 to 15, 17 and 20 to 23: what they tell, their refusals, and that they change nothing."""

import unittest

from tests.helper import FAR, NO_MACHINES, CallCase, Desk, ask_all, rows_of, sheet_text, showing

SIX_REELS = ("reel 9 frames 60 motor 20 change 29", "reel 8 frames 40 motor 0 change 30",
             "reel 99 frames 2000 motor 1980 change 1999", "reel 1 frames 31 motor 21 change 30",
             "reel 50 frames 400 motor 300 change 312", "reel 2 frames 7 end")
ONE_REEL = ("reel 42 frames 100 end",)


def failing(*names):
    """Reel 0 on machine 0, which fails by these calls."""
    desk = Desk(sheet_text())
    desk.do("thread", 0, 0, 3)
    for name in names:
        desk.do(name, 0)
    return desk


class Machine(CallCase):
    def test_no_reel(self):
        for number in (0, 1):
            self.tells(Desk(sheet_text()), [-1, 0, 0, 0, 0, 0, 0, 0, 0], "machine", number)
        desk = failing()
        desk.do("unthread", 0)
        self.tells(desk, [-1, 0, 0, 0, 0, 0, 0, 0, 0], "machine", 0)

    def test_all_nine_in_the_list(self):
        given = ask_all(("sheet", sheet_text()), ("machine", 1), ("machine", 2), ("thread", 1, 1, 4), ("machine", 1))
        self.assertEqual(given[1:], [[-1] + [0] * 8, [-1], [0], [1, -4] + [0] * 7])

    def test_each_failure(self):
        self.tells(failing(), [0, -3, 0, 0, 0, 0, 0, 0, 0], "machine", 0)
        self.tells(failing("seize"), [0, -3, 0, 0, 0, 0, 1, 0, 0], "machine", 0)
        self.tells(failing("tear"), [0, -3, 0, 0, 0, 0, 0, 1, 0], "machine", 0)
        self.tells(failing("lampout"), [0, -3, 0, 0, 0, 0, 0, 0, 1], "machine", 0)
        self.tells(failing("seize", "tear", "lampout"), [0, -3, 0, 0, 0, 0, 1, 1, 1], "machine", 0)
        self.tells(failing("seize", "tear", "lampout", "mend"), [0, -3, 0, 0, 0, 0, 0, 0, 0], "machine", 0)
        self.tells(failing("seize", "tear", "lampout"), [-1, 0, 0, 0, 0, 0, 0, 0, 0], "machine", 1)

    def test_through_a_show(self):
        desk = failing()
        desk.do("go", 0, 0)
        for expected in ([0, -3, 1, 0, 0, 0], [0, -3, 1, 1, 0, 0], [0, -2, 1, 1, 1, 0], [0, -2, 1, 1, 1, 0],
                         [0, -1, 1, 2, 1, 0], [0, 0, 1, 2, 1, 1], [0, 1, 1, 2, 1, 1]):
            self.tells(desk, expected + [0, 0, 0], "machine", 0)
            desk.do("tick", 1)

    def test_both_machines_at_the_change(self):
        desk = showing()
        desk.do("tick", 14)
        self.tells(desk, [0, 14, 1, 2, 1, 1, 0, 0, 0], "machine", 0)
        self.tells(desk, [1, -1, 1, 2, 1, 0, 0, 0, 0], "machine", 1)
        desk.do("tick", 1)
        self.tells(desk, [0, 14, 0, 3, 0, 0, 0, 0, 0], "machine", 0)
        self.tells(desk, [1, 0, 1, 2, 1, 1, 0, 0, 0], "machine", 1)
        desk.do("tick", 2)
        self.tells(desk, [0, 15, 0, 0, 0, 0, 0, 0, 0], "machine", 0)

    def test_the_douser(self):
        # A halt puts off, but only the next tick closes; seize, tear and power close at once.
        for call, expected in ((("halt",), [0, 0, 0, 2, 0, 1, 0, 0, 0]), (("power",), [0, 0, 0, 0, 0, 0, 0, 0, 0]),
                               (("seize", 0), [0, 0, 1, 0, 1, 0, 1, 0, 0]), (("tear", 0), [0, 0, 1, 2, 1, 0, 0, 1, 0]),
                               (("lampout", 0), [0, 0, 1, 2, 0, 1, 0, 0, 1])):
            desk = showing()
            desk.do(*call)
            self.tells(desk, expected, "machine", 0)
            desk.do("tick", 1)
            self.assertEqual(desk.ask("machine", 0)[5], 0)

    def test_the_lamp_is_lit(self):
        for strike in (0, 1, 2, 7):
            desk = Desk(sheet_text(strike=strike, leader=20, reels=ONE_REEL))
            desk.do("thread", 0, 0, 20)
            self.assertEqual(desk.ask("machine", 0)[4], 0)
            desk.do("go", 0, 0)
            for glow in range(12):
                self.assertEqual(desk.ask("machine", 0)[4], 1 if glow >= strike else 0, (strike, glow))
                desk.do("tick", 1)
            desk.do("lampout", 0)
            self.assertEqual(desk.ask("machine", 0)[4], 0)

    def test_a_dead_lamp_is_not_lit(self):
        desk = Desk(sheet_text(strike=0))
        desk.do("thread", 0, 0, 3)
        desk.do("lampout", 0)
        desk.do("go", 0, 0)
        self.tells(desk, [0, -3, 1, 0, 0, 0, 0, 0, 1], "machine", 0)
        desk.do("mend", 0)
        self.tells(desk, [0, -3, 1, 0, 1, 0, 0, 0, 0], "machine", 0)

    def test_mend_lets_the_lamp_glow_anew(self):
        desk = showing()
        desk.do("seize", 0)
        self.assertEqual(desk.ask("machine", 0)[4], 1)
        desk.do("mend", 0)
        self.assertEqual(desk.ask("machine", 0)[4], 0)

    def test_refusals(self):
        for desk in (Desk(sheet_text()), showing()):
            for number in NO_MACHINES:
                self.refused(desk, -1, "machine", number)
                self.assertEqual(Desk().ask("machine", number), [-2])


# A line of calls of every kind; behind each one what house and free tell.
LINE = (
    (("sheet", sheet_text()), [0, 0, 0, 0, 0, 0], [1, 1]),
    (("shown",), [0, 0, 0, 0, 0, 0], [1, 1]),
    (("tick", 2), [2, 0, 0, 0, 0, 0], [1, 1]),
    (("thread", 1, 0, 3), [2, 0, 0, 0, 0, 0], [1, 1]),
    (("thread", 0, 1, 9), [2, 0, 0, 0, 0, 0], [1, 1]),
    (("inch", 0, 4), [2, 0, 0, 0, 0, 0], [1, 1]),
    (("unthread", 0), [2, 0, 0, 0, 0, 0], [1, 1]),
    (("go", 1, 5), [2, 1, 1, 5, 0, 0], [1, 1]),
    (("go", 1, 5), [2, 1, 1, 5, 0, 0], [1, 1]),
    (("tick", 1), [3, 1, 1, 5, 0, 0], [1, 0]),
    (("tick", 8), [11, 1, 1, 5, 0, 0], [1, 0]),
    (("tick", 1), [12, 2, 1, 5, 0, 0], [1, 0]),
    (("machine", 1), [12, 2, 1, 5, 0, 0], [1, 0]),
    (("thread", 0, 1, 5), [12, 2, 1, 5, 0, 0], [1, 0]),
    (("tick", 4), [16, 2, 1, 5, 0, 0], [0, 0]),
    (("seize", 0), [16, 2, 1, 5, 0, 0], [1, 0]),
    (("mend", 0), [16, 2, 1, 5, 0, 0], [1, 0]),
    (("tick", 1), [17, 2, 1, 5, 0, 0], [0, 0]),
    (("halt",), [17, 3, 1, 5, 6, 0], [0, 0]),
    (("halt",), [17, 3, 1, 5, 6, 0], [0, 0]),
    (("tick", 3), [20, 3, 1, 5, 6, 3], [1, 1]),
    (("lampout", 0), [20, 3, 1, 5, 6, 3], [1, 1]),
    (("go", 0, 2), [20, 1, 0, 2, 0, 3], [1, 1]),
    (("tick", 1), [21, 3, 0, 2, 1, 4], [1, 1]),
    (("mend", 0), [21, 3, 0, 2, 1, 4], [1, 1]),
    (("go", 0, 2), [21, 1, 0, 2, 0, 4], [1, 1]),
    (("tick", 2), [23, 1, 0, 2, 0, 6], [0, 1]),
    (("tear", 0), [23, 1, 0, 2, 0, 6], [0, 1]),
    (("tick", 1), [24, 3, 0, 2, 1, 7], [0, 1]),
    (("power",), [24, 3, 0, 2, 1, 7], [1, 1]),
    (("mend", 0), [24, 3, 0, 2, 1, 7], [1, 1]),
    (("go", 0, 2), [24, 1, 0, 2, 0, 7], [1, 1]),
    (("power",), [24, 3, 0, 2, 5, 7], [1, 1]),
    (("thread", 0, 1, 3), [24, 3, 0, 2, 5, 7], [1, 1]),
    (("go", 0, 0), [24, 1, 0, 0, 0, 7], [1, 1]),
    (("tick", 17), [41, 4, 0, 0, 0, 11], [0, 1]),
    (("tick", 9), [50, 4, 0, 0, 0, 11], [1, 1]),
    (("sheet", "what"), [50, 4, 0, 0, 0, 11], [1, 1]),
    (("sheet", sheet_text()), [0, 0, 0, 0, 0, 0], [1, 1]),
)


class HouseAndFree(CallCase):
    def test_behind_every_kind_of_call(self):
        desk = Desk()
        for call, house, free in LINE:
            desk.ask(*call)
            self.tells(desk, house, "house")
            self.tells(desk, free, "free")

    def test_the_same_by_one_list(self):
        calls = []
        for call, house, free in LINE:
            calls.extend([call, ("house",), ("free",)])
        given = ask_all(*calls)
        self.assertEqual(given[1::3], [house for call, house, free in LINE])
        self.assertEqual(given[2::3], [free for call, house, free in LINE])

    def test_every_reason(self):
        for reason, calls in (
                (0, ()),
                (1, (("lampout", 0), ("tick", 1))),
                (2, (("tick", 9), ("seize", 0), ("tick", 1))),
                (3, (("unthread", 1), ("tick", 20))),
                (4, (("tick", 9), ("lampout", 0), ("tick", 1))),
                (5, (("tick", 9), ("power",))),
                (6, (("tick", 9), ("halt",)))):
            desk = Desk(sheet_text())
            desk.do("thread", 0, 0, 3)
            desk.do("thread", 1, 1, 5)
            desk.do("go", 0, 0)
            for call in calls:
                desk.do(*call)
            self.assertEqual(desk.ask("house")[4], reason)

    def test_every_phase(self):
        # Only phase 0 is standing: running up, at speed and running down are not.
        desk = showing()
        self.tells(desk, [0, 1], "free")
        desk.do("tick", 9)
        self.tells(desk, [0, 0], "free")
        desk.do("tick", 6)
        self.assertEqual([machine.phase for machine in desk.house.machines], [3, 2])
        self.tells(desk, [0, 0], "free")
        desk.do("tick", 2)
        self.tells(desk, [1, 0], "free")

    def test_no_sheet(self):
        self.refused(Desk(), -2, "house")
        self.refused(Desk(), -2, "free")


class Screen(CallCase):
    def test_behind_ticks(self):
        desk = failing()
        self.tells(desk, [0], "screen")
        desk.do("thread", 1, 1, 5)
        desk.do("go", 0, 0)
        for tick in range(1, 40):
            desk.do("tick", 1)
            if tick < 5 or tick > 31:
                self.tells(desk, [0], "screen")
            elif tick < 20:
                self.tells(desk, [1, 0, tick - 5], "screen")
            else:
                self.tells(desk, [1, 1, tick - 20], "screen")

    def test_behind_what_puts_it_out(self):
        for call in (("halt",), ("power",), ("seize", 0), ("tear", 0), ("lampout", 0)):
            desk = showing()
            self.tells(desk, [1, 0, 0], "screen")
            desk.do(*call)
            self.tells(desk, [0], "screen")
            self.tells(desk, [1, 5, 0, 0, 0], "record")
            desk.do("tick", 1)
            self.tells(desk, [0], "screen")

    def test_behind_mend(self):
        desk = showing()
        self.refused(desk, -4, "mend", 0)
        self.tells(desk, [1, 0, 0], "screen")
        desk.do("mend", 1)
        self.tells(desk, [1, 0, 0], "screen")
        desk.do("seize", 0)
        desk.do("mend", 0)
        self.tells(desk, [0], "screen")

    def test_what_fails_at_the_other_machine(self):
        for name in ("seize", "tear", "lampout", "mend", "unthread"):
            desk = showing()
            desk.do(name, 1)
            self.tells(desk, [1, 0, 0], "screen")

    def test_machine_1(self):
        for name in ("seize", "tear", "lampout"):
            desk = showing()
            desk.do("tick", 17)
            self.tells(desk, [1, 1, 2], "screen")
            desk.do(name, 0)
            self.tells(desk, [1, 1, 2], "screen")
            desk.do(name, 1)
            self.tells(desk, [0], "screen")

    def test_a_lamp_that_is_lit_again_ahead_of_the_next_tick(self):
        # With strike 0 a lamp that's put on is lit, and the douser hasn't closed yet.
        for strike, expected in ((0, [1, 0, 0]), (1, [0])):
            desk = showing(strike=strike)
            desk.do("halt")
            self.tells(desk, [0], "screen")
            desk.do("go", 0, 9)
            self.tells(desk, expected, "screen")
            desk.do("tick", 1)
            self.tells(desk, [0], "screen")

    def test_a_new_sheet(self):
        desk = showing()
        desk.do("halt")
        desk.do("sheet", sheet_text())
        self.tells(desk, [0], "screen")
        self.refused(Desk(), -2, "screen")


class Log(CallCase):
    def test_nothing_yet(self):
        self.refused(Desk(), -2, "log")
        self.tells(Desk(sheet_text()), [0], "log")
        desk = failing("seize", "tear", "lampout")
        desk.do("tick", 9)
        desk.do("power")
        self.tells(desk, [0], "log")

    def test_a_whole_show(self):
        desk = showing()
        desk.do("tick", 50)
        self.tells(desk, [4, 5, 3, 0, 14, 1, 1, 20, 2, 1, 32, 5, 1], "log")
        desk = Desk(sheet_text())
        desk.do("thread", 1, 0, 3)
        desk.do("thread", 0, 1, 5)
        desk.do("tick", 100)
        desk.do("go", 1, 0)
        desk.do("tick", 50)
        self.tells(desk, [4, 105, 3, 1, 114, 1, 0, 120, 2, 0, 132, 5, 0], "log")

    def test_the_next_reel_is_missing(self):
        desk = failing()
        desk.do("go", 0, 0)
        desk.do("tick", 50)
        self.tells(desk, [3, 5, 3, 0, 14, 6, 1, 20, 4, 3], "log")

    def test_threaded_behind_the_motor_cue(self):
        desk = failing()
        desk.do("go", 0, 0)
        desk.do("tick", 15)
        desk.do("thread", 1, 1, 3)
        desk.do("tick", 50)
        self.tells(desk, [4, 5, 3, 0, 14, 6, 1, 24, 3, 1, 36, 5, 1], "log")

    def test_every_stop(self):
        for reason, ticks, call in ((1, 3, ("tear", 0)), (2, 8, ("tear", 0)), (4, 8, ("lampout", 0))):
            desk = failing()
            desk.do("go", 0, 0)
            desk.do("tick", ticks)
            desk.do(*call)
            desk.do("tick", 5)
            self.assertEqual(rows_of(desk.ask("log"), 3)[-1], (ticks + 1, 4, reason))
        for reason, call in ((5, ("power",)), (6, ("halt",))):
            for ticks in (1, 3, 8):
                desk = failing()
                desk.do("go", 0, 0)
                desk.do("tick", ticks)
                desk.do(*call)
                desk.do("tick", 5)
                self.assertEqual(rows_of(desk.ask("log"), 3)[-1], (ticks, 4, reason))

    def test_a_stop_ahead_of_all_ticks(self):
        desk = failing()
        desk.do("go", 0, 0)
        desk.do("halt")
        self.tells(desk, [1, 0, 4, 6], "log")
        desk.do("go", 0, 0)
        desk.do("power")
        self.tells(desk, [2, 0, 4, 6, 0, 4, 5], "log")


class SheetTellings(CallCase):
    def test_reels(self):
        desk = Desk(sheet_text(leader=40, reels=SIX_REELS))
        for number, expected in enumerate(([9, 60, 20, 29, 0, 29], [8, 40, 0, 30, 0, 30],
                                           [99, 2000, 1980, 1999, 0, 1999], [1, 31, 21, 30, 0, 30],
                                           [50, 400, 300, 312, 0, 312], [2, 7, 0, 0, 1, 6])):
            self.tells(desk, expected, "reel", number)
        desk = Desk(sheet_text(reels=("reel 99 frames 1 end",)))
        self.tells(desk, [99, 1, 0, 0, 1, 0], "reel", 0)

    def test_leads(self):
        desk = Desk(sheet_text(leader=40, reels=SIX_REELS))
        for number, expected in enumerate((3, 8, 29, 18, 8, 11)):
            self.tells(desk, [expected], "lead", number)

    def test_leads_by_up_and_strike(self):
        # up, strike, the leads of the first reel and of the one behind cues that are 50 apart
        for up, strike, first, second in ((4, 2, 3, 49), (4, 4, 3, 49), (4, 5, 4, 49), (5, 4, 3, 48), (5, 5, 3, 48),
                                          (5, 9, 7, 48), (2, 0, 2, 50), (3, 0, 2, 49), (48, 0, 25, 27), (2, 48, 48, 50),
                                          (47, 48, 25, 27)):
            for reels in (("reel 7 frames 200 motor 80 change 130", "reel 3 frames 12 end"), ONE_REEL):
                desk = Desk(sheet_text(up=up, strike=strike, leader=96, reels=reels))
                self.tells(desk, [first], "lead", 0)
                if len(reels) == 2:
                    self.tells(desk, [second], "lead", 1)

    def test_refusals(self):
        for reels in (ONE_REEL, SIX_REELS):
            desk = Desk(sheet_text(leader=40, reels=reels))
            for name in ("lead", "reel"):
                for number in (-1, -2, len(reels), len(reels) + 1, FAR, -FAR):
                    self.refused(desk, -1, name, number)
                    self.refused(Desk(), -2, name, number)
                self.refused(Desk(), -2, name, 0)
        self.refused(Desk(), -2, "plan")

    def test_plans(self):
        self.tells(Desk(sheet_text()), [5, 19, 20, 31], "plan")
        for up, strike, first in ((4, 2, 5), (4, 4, 5), (4, 5, 6), (5, 9, 10), (2, 0, 3), (48, 0, 49), (2, 48, 49)):
            desk = Desk(sheet_text(up=up, strike=strike, leader=96, reels=ONE_REEL))
            self.tells(desk, [first, first + 99], "plan")
        desk = Desk(sheet_text(reels=("reel 42 frames 1 end",)))
        self.tells(desk, [5, 5], "plan")
        desk = Desk(sheet_text(leader=40, reels=SIX_REELS))
        self.tells(desk, [5, 34, 35, 65, 66, 2065, 2066, 2096, 2097, 2409, 2410, 2416], "plan")

    def test_while_all_runs_and_behind_it(self):
        desk = showing()
        for ticks in (1, 10, 50):
            desk.do("tick", ticks)
            self.tells(desk, [5, 19, 20, 31], "plan")
            self.tells(desk, [5], "lead", 1)
            self.tells(desk, [7, 20, 8, 14, 0, 14], "reel", 0)


if __name__ == "__main__":
    unittest.main()
