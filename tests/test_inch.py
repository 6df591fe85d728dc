"""Call 12, inch: the film is moved by hand."""

import unittest

from tests.helper import FAR, NO_MACHINES, CallCase, Desk, ask_all, sheet_text, showing

LONG_REELS = ("reel 7 frames 200 motor 80 change 140", "reel 3 frames 150 end")


def threaded(number=0, reel=0, lead=3, **parts):
    desk = Desk(sheet_text(**parts))
    desk.do("thread", number, reel, lead)
    return desk


class Moves(CallCase):
    def test_the_place_is_that_many_more(self):
        for number in (0, 1):
            for more in (-7, -1, 0, 1, 2, 3, 4, 23):
                desk = threaded(number)
                self.changed(desk, [0, more - 3], ("inch", number, more), (number, "place", more - 3))

    def test_one_behind_another(self):
        given = ask_all(("sheet", sheet_text()), ("thread", 1, 1, 10), ("inch", 1, 4), ("inch", 1, 18), ("inch", 1, -12),
                        ("machine", 1))
        self.assertEqual(given[2:5], [[0, -6], [0, 12], [0, 0]])
        self.assertEqual(given[5], [1, 0, 0, 0, 0, 0, 0, 0, 0])

    def test_farthest(self):
        desk = threaded(lead=0, leader=96, reels=LONG_REELS)
        self.assertEqual(desk.ask("inch", 0, -96), [0, -96])
        self.assertEqual(desk.ask("inch", 0, 96), [0, 0])
        self.assertEqual(desk.ask("inch", 0, 96), [0, 96])
        self.assertEqual(desk.ask("inch", 0, -96), [0, 0])
        for more in (-97, 97, -98, 98, FAR, -FAR):
            self.refused(desk, -1, "inch", 0, more)

    def test_outside(self):
        # leader 10; frames: 20 of reel 0, 12 of reel 1
        for reel, frames in ((0, 20), (1, 12)):
            for lead in (10, 3, 0, -5):
                for place in (-10, -9, frames - 1, frames):
                    desk = threaded(1, reel, lead)
                    self.assertEqual(desk.ask("inch", 1, place + lead), [0, place])
                for place in (-11, -12, frames + 1, frames + 2):
                    self.refused(threaded(1, reel, lead), -7, "inch", 1, place + lead)

    def test_outside_of_the_least_leader_and_reel(self):
        desk = Desk("up 2\nstrike 0\ndown 0\nleader 2\nreel 5 frames 1 end")
        desk.do("thread", 0, 0, 0)
        self.refused(desk, -7, "inch", 0, -3)
        self.refused(desk, -7, "inch", 0, 2)
        self.assertEqual(desk.ask("inch", 0, 1), [0, 1])
        self.assertEqual(desk.ask("inch", 0, -3), [0, -2])
        self.refused(desk, -7, "inch", 0, -1)

    def test_what_fails_stays_as_it_is(self):
        desk = threaded()
        for name in ("seize", "tear", "lampout"):
            desk.do(name, 0)
        self.changed(desk, [0, 1], ("inch", 0, 4), (0, "place", 1))

    def test_film_inched_to_its_lead_is_shown_in_time(self):
        desk = threaded(lead=-2)
        self.assertEqual(desk.ask("inch", 0, -5), [0, -3])
        desk.do("go", 0, 0)
        desk.do("tick", 5)
        self.assertEqual(desk.ask("screen"), [1, 0, 0])

    def test_film_that_was_inched_out(self):
        desk = threaded()
        self.assertEqual(desk.ask("inch", 0, 23), [0, 20])
        desk.do("go", 0, 14)
        self.assertEqual(desk.ask("tick", 5), [5, 3])
        self.assertEqual(desk.ask("machine", 0)[:2], [0, 20])


class Refusals(CallCase):
    def test_machines(self):
        for desk in (Desk(sheet_text()), threaded(), showing()):
            for number in NO_MACHINES:
                self.refused(desk, -1, "inch", number, 1)

    def test_the_active_machine_while_it_is_going(self):
        for number in (0, 1):
            desk = threaded(number)
            desk.do("go", number, 0)
            for ticks in (1, 5, 1):
                self.refused(desk, -3, "inch", number, 1)
                self.refused(desk, -3, "inch", number, 0)
                desk.do("tick", ticks)
            self.assertEqual(desk.house.mode, 2)
            desk.do("seize", number)
            self.refused(desk, -3, "inch", number, 1)

    def test_the_other_machine_while_it_is_going(self):
        desk = showing()
        self.changed(desk, [0, -1], ("inch", 1, 4), (1, "place", -1))
        self.changed(desk, [0, -5], ("inch", 1, -4), (1, "place", -5))
        desk.do("tick", 8)
        self.assertEqual(desk.ask("inch", 1, 0), [0, -5])
        desk.do("tick", 1)
        self.assertEqual(desk.motion(1), (1, 1, -5))
        self.refused(desk, -4, "inch", 1, 0)
        desk.do("seize", 1)
        self.assertEqual(desk.ask("inch", 1, 1), [0, -4])

    def test_the_other_machine_behind_the_change(self):
        desk = showing()
        desk.do("tick", 15)
        self.assertEqual((desk.house.active, desk.motion(0)), (1, (3, 1, 14)))
        self.refused(desk, -3, "inch", 1, 1)
        self.refused(desk, -4, "inch", 0, 1)
        desk.do("tick", 2)
        self.assertEqual(desk.ask("inch", 0, -18), [0, -3])

    def test_not_standing(self):
        desk = showing()
        desk.do("halt")
        for phase in (2, 3, 3):
            self.assertEqual(desk.machine(0).phase, phase)
            self.refused(desk, -4, "inch", 0, 1)
            desk.do("tick", 1)
        self.assertEqual(desk.ask("inch", 0, 1), [0, 2])

    def test_no_reel(self):
        desk = threaded()
        self.refused(desk, -6, "inch", 1, 0)
        desk.do("unthread", 0)
        self.refused(desk, -6, "inch", 0, 0)

    def test_order(self):
        self.assertEqual(Desk().ask("inch", 2, 97), [-2])
        desk = showing()
        self.refused(desk, -1, "inch", 0, 97)
        self.refused(desk, -1, "inch", 0, -97)
        self.refused(desk, -3, "inch", 0, 96)
        desk.do("halt")
        self.refused(desk, -1, "inch", 0, 97)
        self.refused(desk, -4, "inch", 0, 96)
        desk.do("tick", 3)
        self.refused(desk, -1, "inch", 0, 97)
        self.refused(desk, -7, "inch", 0, 96)
        desk.do("unthread", 0)
        self.refused(desk, -1, "inch", 0, 97)
        self.refused(desk, -6, "inch", 0, 96)

    def test_not_standing_ahead_of_no_reel(self):
        desk = showing()
        desk.do("tick", 9)
        for name in ("seize", "unthread", "mend"):
            desk.do(name, 1)
        self.refused(desk, -6, "inch", 1, 1)
        desk.do("tick", 1)
        self.assertEqual(desk.motion(1), (1, 1, 0))
        self.refused(desk, -4, "inch", 1, 1)


if __name__ == "__main__":
    unittest.main()
