"""Ticks: machines run up, run at speed and run down; the automation, the screen, the record and the dark ticks."""

import unittest

from twoprojectors.machine import pass_tick
from twoprojectors.screen import on_screen

from tests.helper import Desk, ask_all, sheet_text, showing


def waiting(frame=0, lead=3, **parts):
    """Reel 0 is threaded on machine 0, which was set going."""
    desk = Desk(sheet_text(**parts))
    desk.do("thread", 0, 0, lead)
    desk.do("go", 0, frame)
    return desk


class TickCase(unittest.TestCase):
    def moves(self, desk, number, *expected):
        """Phase, count and place of a machine, tick by tick."""
        for at, motion in enumerate(expected):
            desk.do("tick", 1)
            self.assertEqual(desk.motion(number), motion, at)

    def stopped(self, desk, reason):
        house = desk.house
        self.assertEqual((house.mode, house.reason), (3, reason))
        self.assertEqual(house.log[-1], (house.ticks, 4, reason))
        for machine in house.machines:
            self.assertEqual((machine.motor, machine.lamp, machine.glow, machine.told, machine.douser),
                             (False, False, 0, False, False))


class Motors(TickCase):
    def test_run_up_even(self):
        self.moves(waiting(), 0, (1, 1, -3), (1, 2, -2), (1, 3, -2), (2, 0, -1), (2, 0, 0), (2, 0, 1))

    def test_run_up_odd(self):
        self.moves(waiting(up=5), 0, (1, 1, -3), (1, 2, -2), (1, 3, -2), (1, 4, -1), (2, 0, -1), (2, 0, 0))

    def test_shortest_run_up(self):
        self.moves(waiting(up=2, lead=2), 0, (1, 1, -2), (2, 0, -1), (2, 0, 0))
        self.moves(waiting(up=3, lead=2), 0, (1, 1, -2), (1, 2, -1), (2, 0, -1), (2, 0, 0))

    def run_down(self, down, *expected):
        desk = showing(down=down)
        desk.do("halt")
        self.assertEqual(desk.motion(0), (2, 0, 0))
        self.moves(desk, 0, *expected)
        self.assertFalse(desk.machine(0).douser)

    def test_run_down(self):
        self.run_down(0, (0, 0, 0), (0, 0, 0))
        self.run_down(1, (0, 0, 0), (0, 0, 0))
        self.run_down(2, (3, 1, 0), (0, 0, 1), (0, 0, 1))
        self.run_down(3, (3, 1, 0), (3, 2, 1), (0, 0, 1), (0, 0, 1))
        self.run_down(4, (3, 1, 0), (3, 2, 1), (3, 3, 1), (0, 0, 2), (0, 0, 2))
        self.run_down(5, (3, 1, 0), (3, 2, 1), (3, 3, 1), (3, 4, 2), (0, 0, 2))

    def test_run_down_out_of_the_run_up(self):
        desk = waiting()
        desk.do("tick", 3)
        desk.do("halt")
        self.moves(desk, 0, (3, 1, -2), (3, 2, -1), (0, 0, -1))
        for down in (0, 1):
            desk = waiting(down=down)
            desk.do("tick", 3)
            desk.do("halt")
            self.moves(desk, 0, (0, 0, -2), (0, 0, -2))

    def test_run_up_out_of_the_run_down(self):
        desk = showing(down=9)
        desk.do("halt")
        desk.do("tick", 2)
        self.assertEqual(desk.motion(0), (3, 2, 1))
        desk.do("go", 0, 6)
        self.moves(desk, 0, (1, 1, 1), (1, 2, 2), (1, 3, 2), (2, 0, 3), (2, 0, 4))

    def test_run_up_goes_on_if_it_is_halted_and_set_going_between_ticks(self):
        desk = waiting()
        desk.do("tick", 2)
        desk.do("halt")
        desk.do("go", 0, 4)
        self.moves(desk, 0, (1, 3, -2), (2, 0, -1), (2, 0, 0))

    def test_seized(self):
        desk = showing()
        desk.do("seize", 1)
        desk.do("tick", 8)
        self.moves(desk, 1, (0, 0, -5), (0, 0, -5), (0, 0, -5))
        self.assertEqual((desk.machine(1).motor, desk.machine(1).glow), (True, 3))

    def test_seized_with_the_motor_off(self):
        desk = showing()
        desk.do("seize", 0)
        self.moves(desk, 0, (0, 0, 0), (0, 0, 0))

    def test_torn_film_does_not_move(self):
        desk = showing()
        desk.do("tear", 1)
        desk.do("tick", 8)
        self.moves(desk, 1, (1, 1, -5), (1, 2, -5), (1, 3, -5), (2, 0, -5), (2, 0, -5))

    def test_no_reel(self):
        desk = showing()
        desk.do("tick", 9)
        desk.do("seize", 1)
        desk.do("unthread", 1)
        desk.do("mend", 1)
        self.moves(desk, 1, (1, 1, 0), (1, 2, 0), (1, 3, 0), (2, 0, 0), (2, 0, 0))

    def test_film_that_is_out_does_not_move(self):
        reels = ("reel 7 frames 400 motor 8 change 14", "reel 3 frames 2 end")
        desk = Desk(sheet_text(reels=reels))
        desk.do("thread", 0, 1, -1)
        desk.do("go", 0, 0)
        self.moves(desk, 0, (1, 1, 1), (1, 2, 2), (1, 3, 2), (2, 0, 2))
        self.moves(desk, 0, (3, 1, 2), (3, 2, 2), (0, 0, 2))
        self.assertEqual(desk.house.reason, 1)

    def test_machines_that_stand(self):
        desk = Desk(sheet_text())
        desk.do("thread", 0, 0, 3)
        before = desk.snapshot()
        desk.do("tick", 500)
        before["ticks"] = 500
        self.assertEqual(desk.snapshot(), before)


class Dousers(unittest.TestCase):
    """One machine alone, set by hand: also as the automation would never leave it."""

    def open_behind(self, **parts):
        desk = Desk(sheet_text())
        desk.do("thread", 0, 0, 3)
        machine = desk.machine(0)
        machine.phase = 2
        machine.motor = True
        machine.told = True
        for name, value in parts.items():
            setattr(machine, name, value)
        pass_tick(machine, desk.house.sheet)
        return machine.douser

    def test_open(self):
        self.assertIs(self.open_behind(), True)
        self.assertIs(self.open_behind(place=19), True)
        self.assertIs(self.open_behind(dead=True), True)

    def test_not_told(self):
        self.assertIs(self.open_behind(told=False), False)
        self.assertIs(self.open_behind(told=False, douser=True), False)

    def test_the_film_did_not_move(self):
        self.assertIs(self.open_behind(torn=True), False)
        self.assertIs(self.open_behind(place=20), False)
        self.assertIs(self.open_behind(reel=-1), False)

    def test_not_at_speed_when_the_tick_began(self):
        self.assertIs(self.open_behind(phase=1, count=1), False)
        # The film moves and the machine is at speed, but only behind the tick.
        self.assertIs(self.open_behind(phase=1, count=3), False)
        self.assertIs(self.open_behind(phase=0), False)
        self.assertIs(self.open_behind(phase=3, count=1), False)

    def test_motor_off(self):
        self.assertIs(self.open_behind(motor=False), False)
        self.assertIs(self.open_behind(motor=False, phase=3, count=1), False)

    def test_seized(self):
        self.assertIs(self.open_behind(seized=True), False)

    def test_seized_machines_stand(self):
        desk = Desk(sheet_text())
        machine = desk.machine(0)
        machine.phase = 1
        machine.count = 3
        machine.seized = True
        pass_tick(machine, desk.house.sheet)
        self.assertEqual(desk.motion(0), (0, 0, 0))


class Lamps(TickCase):
    def test_glow(self):
        desk = waiting()
        for glow in range(1, 8):
            desk.do("tick", 1)
            self.assertEqual(desk.machine(0).glow, glow)
        desk.do("halt")
        desk.do("tick", 1)
        self.assertEqual(desk.machine(0).glow, 0)

    def test_a_dead_lamp_glows_on(self):
        desk = waiting()
        desk.do("tick", 2)
        desk.do("lampout", 0)
        pass_tick(desk.machine(0), desk.house.sheet)
        self.assertEqual(desk.machine(0).glow, 3)

    def test_strike_edges(self):
        # At speed behind tick 4 with place -1: the lamp must have been on for strike ticks by then.
        for strike, reason in ((0, 0), (3, 0), (4, 0), (5, 1), (6, 1)):
            desk = waiting(strike=strike)
            self.assertEqual(desk.do("tick", 5), [5, 3 if reason else 2])
            self.assertEqual(desk.house.reason, reason)

    def test_strike_more_than_up(self):
        # up 4 and strike 7: the lead is 6, the first frame comes behind the strike.
        desk = waiting(strike=7, lead=6, reels=("reel 1 frames 9 end",))
        self.moves(desk, 0, (1, 1, -6), (1, 2, -5), (1, 3, -5), (2, 0, -4), (2, 0, -3), (2, 0, -2), (2, 0, -1))
        self.assertEqual((desk.house.mode, desk.house.runs), (1, []))
        desk.do("tick", 1)
        self.assertEqual((desk.house.mode, desk.house.runs), (2, [[8, 0, 0, 0]]))

    def test_strike_0(self):
        desk = waiting(strike=0)
        self.assertEqual(desk.do("tick", 5), [5, 2])
        desk.do("halt")
        desk.do("go", 0, 1)
        # Still at speed, and a lamp that needs no time is lit at once.
        self.assertEqual(desk.do("tick", 1), [6, 2])
        self.assertEqual(desk.house.runs, [[5, 0, 0, 1]])


class Waiting(TickCase):
    def test_the_target_comes(self):
        desk = waiting(frame=4)
        for tick in range(1, 9):
            self.assertEqual(desk.do("tick", 1), [tick, 1])
            self.assertFalse(desk.machine(0).douser)
        self.assertEqual(desk.do("tick", 1), [9, 2])
        self.assertEqual(desk.house.log, [(9, 3, 0)])
        self.assertEqual(desk.motion(0), (2, 0, 4))
        self.assertEqual(desk.house.runs, [[9, 0, 4, 4]])
        self.assertEqual(desk.house.target, 4)

    def test_the_machine_is_logged(self):
        desk = Desk(sheet_text())
        desk.do("thread", 1, 1, 3)
        desk.do("go", 1, 0)
        desk.do("tick", 5)
        self.assertEqual(desk.house.log, [(5, 3, 1)])

    def test_too_late(self):
        # Lead 2 instead of 3: at speed, the film is at the target already.
        for lead, frame in ((2, 0), (1, 0), (0, 0), (-5, 0), (-4, 6)):
            desk = waiting(lead=lead, frame=frame)
            self.assertEqual(desk.do("tick", 4), [4, 1])
            self.assertEqual(desk.do("tick", 1), [5, 3])
            self.stopped(desk, 1)
            self.assertEqual(desk.house.log, [(5, 4, 1)])
            self.assertEqual(desk.house.runs, [])

    def test_in_place_but_not_lit(self):
        desk = waiting(strike=9, lead=3, leader=20, reels=("reel 3 frames 12 end",))
        self.assertEqual(desk.do("tick", 4), [4, 1])
        self.assertEqual(desk.do("tick", 1), [5, 3])
        self.stopped(desk, 1)

    def test_failures(self):
        for name in ("seize", "tear", "lampout"):
            desk = waiting()
            desk.do("tick", 2)
            desk.do(name, 0)
            self.assertEqual(desk.house.mode, 1)
            self.assertEqual(desk.do("tick", 1), [3, 3])
            self.stopped(desk, 1)

    def test_failures_of_the_other(self):
        for name in ("seize", "tear", "lampout"):
            desk = Desk(sheet_text())
            desk.do("thread", 0, 0, 3)
            desk.do("thread", 1, 1, 5)
            desk.do("go", 0, 0)
            desk.do(name, 1)
            self.assertEqual(desk.do("tick", 18), [18, 2])

    def test_a_target_behind_the_motor_cue_passes_it(self):
        # Frame 9 comes out of place 8, the motor cue: the tick that begins the show does nothing else.
        desk = Desk(sheet_text())
        desk.do("thread", 0, 0, -5)
        desk.do("thread", 1, 1, 5)
        desk.do("go", 0, 9)
        desk.do("tick", 20)
        self.assertNotIn(1, [entry[1] for entry in desk.house.log])
        self.assertEqual(desk.house.log[0], (6, 3, 0))

    def test_a_target_at_the_motor_cue_starts_the_other(self):
        desk = Desk(sheet_text())
        desk.do("thread", 0, 0, -5)
        desk.do("thread", 1, 1, 5)
        desk.do("go", 0, 8)
        desk.do("tick", 40)
        self.assertEqual(desk.house.log, [(5, 3, 0), (6, 1, 1), (12, 2, 1), (24, 5, 1)])


class Showing(TickCase):
    def test_a_whole_show(self):
        desk = showing()
        self.assertEqual(desk.do("tick", 26), [31, 2])
        self.assertEqual(desk.do("tick", 1), [32, 4])
        house = desk.house
        self.assertEqual(house.log, [(5, 3, 0), (14, 1, 1), (20, 2, 1), (32, 5, 1)])
        self.assertEqual(house.runs, [[5, 0, 0, 14], [20, 1, 0, 11]])
        self.assertEqual((house.dark_ticks, house.active, house.target, house.reason), (0, 1, 0, 0))
        for machine in house.machines:
            self.assertEqual((machine.motor, machine.lamp, machine.told, machine.douser), (False,) * 4)
        desk.do("tick", 100)
        self.assertEqual((house.dark_ticks, house.mode, len(house.log)), (0, 4, 4))

    def test_the_screen(self):
        desk = waiting()
        self.assertIsNone(on_screen(desk.house))
        desk.do("tick", 4)
        self.assertIsNone(on_screen(desk.house))
        for frame in range(15):
            desk.do("tick", 1)
            self.assertEqual(on_screen(desk.house), (0, frame))

    def test_what_a_call_puts_out_is_not_on_the_screen(self):
        for call in (("halt",), ("power",), ("seize", 0), ("tear", 0), ("lampout", 0)):
            desk = showing()
            self.assertEqual(on_screen(desk.house), (0, 0))
            desk.do(*call)
            self.assertIsNone(on_screen(desk.house))
            self.assertEqual(desk.house.runs, [[5, 0, 0, 0]])

    def test_a_show_of_one_frame(self):
        desk = waiting(reels=("reel 3 frames 1 end",))
        self.assertEqual(desk.do("tick", 5), [5, 2])
        self.assertEqual(desk.do("tick", 1), [6, 4])
        self.assertEqual(desk.house.log, [(5, 3, 0), (6, 5, 0)])
        self.assertEqual(desk.house.runs, [[5, 0, 0, 0]])

    def test_not_running(self):
        for name in ("seize", "tear"):
            desk = showing()
            desk.do("tick", 2)
            desk.do(name, 0)
            self.assertEqual(desk.do("tick", 1), [8, 3])
            self.stopped(desk, 2)
            self.assertEqual(desk.house.runs, [[5, 0, 0, 2]])

    def test_seized_and_mended_between_ticks(self):
        desk = showing()
        desk.do("seize", 0)
        desk.do("mend", 0)
        self.assertEqual(desk.do("tick", 1), [6, 3])
        self.stopped(desk, 2)

    def test_the_lamp_goes_out(self):
        desk = showing()
        desk.do("tick", 2)
        desk.do("lampout", 0)
        self.assertEqual(desk.do("tick", 1), [8, 3])
        self.stopped(desk, 4)

    def test_not_running_is_told_ahead_of_the_lamp(self):
        for name in ("seize", "tear"):
            desk = showing()
            desk.do("lampout", 0)
            desk.do(name, 0)
            desk.do("tick", 1)
            self.stopped(desk, 2)

    def test_failures_at_the_last_frame(self):
        desk = showing()
        desk.do("tick", 26)
        desk.do("lampout", 1)
        self.assertEqual(desk.do("tick", 1), [32, 3])
        self.stopped(desk, 4)

    def test_dark_ticks(self):
        desk = waiting()
        desk.do("tick", 4)
        self.assertEqual(desk.house.dark_ticks, 0)
        desk.do("tick", 3)
        desk.do("halt")
        self.assertEqual(desk.house.dark_ticks, 0)
        desk.do("tick", 6)
        self.assertEqual(desk.house.dark_ticks, 6)
        desk.do("thread", 0, 0, 3)
        desk.do("go", 0, 0)
        desk.do("tick", 7)
        self.assertEqual(desk.house.dark_ticks, 10)
        self.assertEqual(desk.house.runs, [[5, 0, 0, 2], [18, 0, 0, 2]])

    def test_halt_and_power_in_the_log(self):
        desk = showing()
        desk.do("halt")
        desk.do("tick", 5)
        desk.do("go", 0, 9)
        desk.do("power")
        self.assertEqual(desk.house.log, [(5, 3, 0), (5, 4, 6), (10, 4, 5)])
        self.assertEqual(desk.house.reason, 5)


class Record(TickCase):
    def test_a_frame_left_out_begins_a_run(self):
        desk = showing(strike=0)
        desk.do("halt")
        desk.do("go", 0, 2)
        desk.do("tick", 2)
        self.assertEqual(desk.house.runs, [[5, 0, 0, 0], [7, 0, 2, 2]])
        self.assertEqual(desk.house.dark_ticks, 1)

    def test_a_frame_one_more_but_later_begins_a_run(self):
        desk = showing(down=0)
        desk.do("halt")
        desk.do("tick", 1)
        desk.do("thread", 0, 0, 2)
        desk.do("go", 0, 1)
        desk.do("tick", 6)
        self.assertEqual(desk.house.runs, [[5, 0, 0, 0], [11, 0, 1, 2]])

    def test_another_reel_begins_a_run(self):
        # The change cue is 4 and the other reel's film is set to frame 5 in the very next tick.
        desk = Desk(sheet_text(strike=0, reels=("reel 7 frames 20 motor 0 change 4", "reel 3 frames 12 end")))
        desk.do("thread", 0, 0, 3)
        desk.do("thread", 1, 1, -2)
        desk.do("go", 0, 0)
        self.assertEqual(desk.do("tick", 9), [9, 2])
        self.assertEqual(desk.motion(1), (2, 0, 4))
        desk.do("halt")
        desk.do("go", 1, 5)
        self.assertEqual(desk.do("tick", 3), [12, 2])
        self.assertEqual(desk.house.runs, [[5, 0, 0, 4], [10, 1, 5, 7]])

    def test_the_same_frame_again_begins_a_run(self):
        desk = showing(down=0)
        desk.do("tick", 3)
        desk.do("halt")
        desk.do("tick", 1)
        desk.do("thread", 0, 0, 0)
        desk.do("go", 0, 3)
        desk.do("tick", 8)
        self.assertEqual(desk.house.runs, [[5, 0, 0, 3], [14, 0, 3, 6]])


class Changing(TickCase):
    def test_in_time(self):
        desk = showing()
        desk.do("tick", 8)
        self.assertEqual((desk.machine(0).place, desk.machine(1).motor), (8, False))
        self.moves(desk, 1, (1, 1, -5), (1, 2, -4), (1, 3, -4), (2, 0, -3), (2, 0, -2), (2, 0, -1))
        self.assertEqual((desk.machine(0).place, desk.house.active), (14, 0))
        self.moves(desk, 1, (2, 0, 0))
        self.assertEqual(desk.motion(0), (3, 1, 14))
        self.assertEqual([machine.douser for machine in desk.house.machines], [False, True])
        self.assertEqual((desk.house.active, desk.house.mode, desk.house.target), (1, 2, 0))
        self.assertEqual(desk.machine(0).motor, False)
        self.assertEqual(desk.machine(0).glow, 0)

    def test_the_target_of_a_go_stays_if_it_is_in_time(self):
        desk = Desk(sheet_text())
        desk.do("thread", 0, 0, 3)
        desk.do("thread", 1, 1, 5)
        desk.do("go", 0, 5)
        self.assertEqual(desk.do("tick", 25), [25, 2])
        self.assertEqual((desk.house.active, desk.house.target), (1, 5))

    def test_the_other_has_no_reel(self):
        desk = waiting()
        self.assertEqual(desk.do("tick", 14), [14, 2])
        self.assertEqual(desk.house.log, [(5, 3, 0), (14, 6, 1)])
        self.assertFalse(desk.machine(1).motor)
        self.assertEqual(desk.do("tick", 5), [19, 2])
        self.assertEqual(desk.do("tick", 1), [20, 3])
        self.stopped(desk, 3)
        self.assertEqual(desk.house.active, 0)

    def test_the_other_of_machine_1_has_no_reel(self):
        desk = Desk(sheet_text())
        desk.do("thread", 1, 0, 3)
        desk.do("go", 1, 0)
        self.assertEqual(desk.do("tick", 20), [20, 3])
        self.assertEqual(desk.house.log, [(5, 3, 1), (14, 6, 0), (20, 4, 3)])

    def test_the_other_has_another_reel(self):
        reels = ("reel 7 frames 20 motor 8 change 14", "reel 8 frames 20 motor 8 change 14", "reel 3 frames 12 end")
        desk = Desk(sheet_text(reels=reels))
        desk.do("thread", 0, 0, 3)
        desk.do("thread", 1, 2, 5)
        desk.do("go", 0, 0)
        self.assertEqual(desk.do("tick", 14), [14, 2])
        self.assertEqual(desk.house.log, [(5, 3, 0), (14, 6, 1)])
        self.assertFalse(desk.machine(1).motor)
        self.assertEqual(desk.do("tick", 6), [20, 3])
        self.stopped(desk, 3)

    def test_the_reel_before_is_not_the_next(self):
        reels = ("reel 7 frames 20 motor 8 change 14", "reel 8 frames 20 motor 8 change 14", "reel 3 frames 12 end")
        desk = Desk(sheet_text(reels=reels))
        desk.do("thread", 0, 1, 3)
        desk.do("thread", 1, 0, 5)
        desk.do("go", 0, 0)
        self.assertEqual(desk.do("tick", 20), [20, 3])
        self.stopped(desk, 3)

    def test_the_other_is_unthreaded_while_it_would_start(self):
        desk = showing()
        desk.do("tick", 8)
        desk.do("unthread", 1)
        desk.do("tick", 7)
        self.assertEqual(desk.house.mode, 3)
        self.stopped(desk, 3)

    def late(self, *calls, lead=5):
        desk = Desk(sheet_text(down=0))
        desk.do("thread", 0, 0, 3)
        desk.do("thread", 1, 1, lead)
        desk.do("go", 0, 0)
        for call in calls:
            desk.do(*call)
        return desk

    def test_threaded_with_more_lead(self):
        desk = self.late(lead=8)
        self.assertEqual(desk.do("tick", 19), [19, 2])
        self.assertEqual(desk.do("tick", 1), [20, 1])
        self.assertEqual((desk.house.active, desk.house.target, desk.house.log[-1]), (1, 0, (14, 1, 1)))
        self.assertEqual([machine.motor for machine in desk.house.machines], [False, True])
        self.assertEqual([machine.douser for machine in desk.house.machines], [False, False])
        self.assertEqual(desk.do("tick", 2), [22, 1])
        self.assertEqual(desk.do("tick", 1), [23, 2])
        self.assertEqual(desk.house.log[-1], (23, 3, 1))
        self.assertEqual(desk.house.runs, [[5, 0, 0, 14], [23, 1, 0, 0]])
        self.assertEqual(desk.house.dark_ticks, 3)

    def test_threaded_with_less_lead(self):
        desk = self.late(lead=4)
        self.assertEqual(desk.do("tick", 20), [20, 1])
        self.assertEqual(desk.do("tick", 1), [21, 3])
        self.stopped(desk, 1)

    def test_threaded_behind_the_motor_cue(self):
        desk = waiting()
        desk.do("tick", 15)
        desk.do("thread", 1, 1, 3)
        self.assertEqual(desk.do("tick", 4), [19, 2])
        self.assertEqual(desk.motion(1), (0, 0, -3))
        self.assertEqual(desk.do("tick", 1), [20, 1])
        self.assertEqual(desk.motion(1), (1, 1, -3))
        self.assertEqual(desk.do("tick", 3), [23, 1])
        self.assertEqual(desk.do("tick", 1), [24, 2])
        self.assertEqual(desk.house.log, [(5, 3, 0), (14, 6, 1), (24, 3, 1)])
        self.assertEqual((desk.house.dark_ticks, desk.house.target), (4, 0))

    def test_the_target_is_0_if_it_is_late(self):
        desk = Desk(sheet_text())
        desk.do("thread", 0, 0, 3)
        desk.do("thread", 1, 1, 8)
        desk.do("go", 0, 5)
        desk.do("tick", 25)
        self.assertEqual((desk.house.active, desk.house.target), (1, 0))

    def test_the_other_fails_on_the_way(self):
        for name in ("seize", "tear", "lampout"):
            desk = self.late(("tick", 16), (name, 1))
            self.assertEqual(desk.do("tick", 4), [20, 1])
            self.assertEqual((desk.house.active, desk.house.target), (1, 0))
            self.assertEqual(desk.do("tick", 1), [21, 3])
            self.stopped(desk, 1)

    def test_machine_1_first(self):
        desk = Desk(sheet_text())
        desk.do("thread", 1, 0, 3)
        desk.do("thread", 0, 1, 5)
        desk.do("go", 1, 0)
        self.assertEqual(desk.do("tick", 32), [32, 4])
        self.assertEqual(desk.house.log, [(5, 3, 1), (14, 1, 0), (20, 2, 0), (32, 5, 0)])
        self.assertEqual(desk.house.runs, [[5, 0, 0, 14], [20, 1, 0, 11]])


class Answers(unittest.TestCase):
    """The same by what is answered alone."""

    def test_every_reason_as_a_mode(self):
        begin = (("sheet", sheet_text()), ("thread", 0, 0, 3), ("thread", 1, 1, 5), ("go", 0, 0))
        for calls, given in (
                ((("tick", 32),), [[32, 4]]),
                ((("seize", 0), ("tick", 1)), [[0], [1, 3]]),
                ((("tick", 9), ("tear", 0), ("tick", 1)), [[9, 2], [0], [10, 3]]),
                ((("unthread", 1), ("tick", 19), ("tick", 1)), [[0], [19, 2], [20, 3]]),
                ((("tick", 9), ("lampout", 0), ("tick", 1)), [[9, 2], [0], [10, 3]]),
                ((("tick", 9), ("power",), ("tick", 1)), [[9, 2], [0], [10, 3]]),
                ((("tick", 9), ("halt",), ("tick", 1)), [[9, 2], [0], [10, 3]])):
            self.assertEqual(ask_all(*begin, *calls)[4:], given)


if __name__ == "__main__":
    unittest.main()
