"""Calls 1 to 11: what they answer and change, each refusal, their order, and that a refusal changes nothing."""

import unittest

from tests.helper import FAR, NAMES, NO_MACHINES, SIZES, CallCase, Desk, ask_all, ask_last, sheet_text, showing


class NoSheet(CallCase):
    def test_ahead_of_all(self):
        for name in NAMES[1:]:
            for number in (0, 1, 2, -1, FAR, -FAR):
                desk = Desk()
                self.refused(desk, -2, name, *[number] * SIZES[name])
                self.assertEqual(ask_all((name, *[number] * SIZES[name])), [[-2]])

    def test_a_wrong_sheet_is_none(self):
        given = ask_all(("sheet", "up 4"), ("tick", 0), ("thread", 9, 9, 999), ("tick", 1))
        self.assertEqual(given, [[1, 2, 3], [-2], [-2], [-2]])


class OutOfRange(CallCase):
    def test_machines(self):
        for desk in (Desk(sheet_text()), showing()):
            for number in NO_MACHINES:
                self.refused(desk, -1, "thread", number, 0, 0)
                self.refused(desk, -1, "unthread", number)
                self.refused(desk, -1, "go", number, 0)
                self.refused(desk, -1, "seize", number)
                self.refused(desk, -1, "tear", number)
                self.refused(desk, -1, "lampout", number)
                self.refused(desk, -1, "mend", number)

    def test_ticks(self):
        for number in (0, -1, 501, 502, FAR, -FAR):
            self.refused(Desk(sheet_text()), -1, "tick", number)
        for number in (1, 2, 499, 500):
            self.assertEqual(ask_last(("sheet", sheet_text()), ("tick", number)), [number, 0])


class Thread(CallCase):
    def test_it_has_the_reel(self):
        for number in (0, 1):
            for reel in (0, 1):
                for lead in (0, 1, 3, 10, -1, -11):
                    desk = Desk(sheet_text())
                    self.changed(desk, [0], ("thread", number, reel, lead),
                                 (number, "reel", reel), (number, "place", -lead))

    def test_the_film_is_not_torn(self):
        desk = Desk(sheet_text())
        desk.do("thread", 0, 0, 3)
        desk.do("tear", 0)
        desk.do("lampout", 0)
        desk.do("seize", 0)
        self.changed(desk, [0], ("thread", 0, 1, 5), (0, "reel", 1), (0, "place", -5), (0, "torn", False))

    def test_the_same_reel_again(self):
        desk = Desk(sheet_text())
        desk.do("thread", 1, 1, 3)
        self.changed(desk, [0], ("thread", 1, 1, -4), (1, "place", 4))

    def test_ranges(self):
        # frames: 20 of reel 0, 12 of reel 1; leader 10
        for reel, frames in ((0, 20), (1, 12)):
            for lead in (1 - frames, 2 - frames, 9, 10):
                self.assertEqual(Desk(sheet_text()).ask("thread", 0, reel, lead), [0])
            for lead in (-frames, -frames - 1, 11, 12, FAR, -FAR):
                self.refused(Desk(sheet_text()), -1, "thread", 0, reel, lead)
        for reel in (-1, -2, 2, 3, FAR, -FAR):
            self.refused(Desk(sheet_text()), -1, "thread", 0, reel, 0)

    def test_one_reel_of_one_frame(self):
        text = sheet_text(reels=("reel 3 frames 1 end",))
        self.assertEqual(Desk(text).ask("thread", 0, 0, 0), [0])
        self.refused(Desk(text), -1, "thread", 0, 0, -1)
        self.refused(Desk(text), -1, "thread", 0, 1, 0)

    def test_going(self):
        desk = showing()
        self.refused(desk, -3, "thread", 0, 0, 3)
        self.changed(desk, [0], ("thread", 1, 1, 7), (1, "place", -7))

    def test_going_but_the_machine_stands(self):
        desk = Desk(sheet_text())
        desk.do("thread", 1, 0, 3)
        desk.do("go", 1, 0)
        self.refused(desk, -3, "thread", 1, 0, 3)
        self.assertEqual(desk.ask("thread", 0, 1, 5), [0])

    def test_not_standing(self):
        desk = showing()
        desk.do("halt")
        for phase in (2, 3, 3):
            self.assertEqual(desk.machine(0).phase, phase)
            self.refused(desk, -4, "thread", 0, 0, 3)
            desk.do("tick", 1)
        self.assertEqual(desk.ask("thread", 0, 0, 3), [0])

    def test_not_standing_and_not_active(self):
        desk = showing()
        desk.do("tick", 9)
        self.assertEqual(desk.motion(1), (1, 1, -5))
        self.refused(desk, -4, "thread", 1, 1, 5)

    def test_the_other_has_it(self):
        desk = Desk(sheet_text())
        desk.do("thread", 0, 1, 3)
        self.refused(desk, -5, "thread", 1, 1, 3)
        self.assertEqual(desk.ask("thread", 1, 0, 3), [0])
        self.refused(desk, -5, "thread", 0, 0, 3)
        self.refused(desk, -5, "thread", 1, 1, 3)

    def test_order(self):
        desk = showing()
        self.refused(desk, -1, "thread", 0, 2, 3)
        self.refused(desk, -1, "thread", 0, 0, 11)
        self.refused(desk, -3, "thread", 0, 1, 3)
        desk.do("halt")
        self.refused(desk, -1, "thread", 0, 1, 11)
        self.refused(desk, -4, "thread", 0, 1, 3)
        desk.do("tick", 3)
        self.refused(desk, -1, "thread", 0, 1, 11)
        self.refused(desk, -5, "thread", 0, 1, 3)


class Unthread(CallCase):
    def test_it_has_no_reel(self):
        for number in (0, 1):
            desk = Desk(sheet_text())
            desk.do("thread", number, 1, 4)
            desk.do("tear", number)
            desk.do("lampout", number)
            desk.do("seize", number)
            self.changed(desk, [0], ("unthread", number),
                         (number, "reel", -1), (number, "place", 0), (number, "torn", False))
            self.refused(desk, -6, "unthread", number)

    def test_the_reel_is_free_for_the_other(self):
        given = ask_all(("sheet", sheet_text()), ("thread", 0, 1, 3), ("thread", 1, 1, 3), ("unthread", 0),
                        ("thread", 1, 1, 3))
        self.assertEqual(given[1:], [[0], [-5], [0], [0]])

    def test_refusals(self):
        desk = Desk(sheet_text())
        self.refused(desk, -6, "unthread", 0)
        desk = showing()
        self.refused(desk, -3, "unthread", 0)
        desk.do("halt")
        self.refused(desk, -4, "unthread", 0)
        desk.do("tick", 3)
        self.assertEqual(desk.ask("unthread", 0), [0])

    def test_the_other_while_going(self):
        desk = showing()
        self.assertEqual(desk.ask("unthread", 1), [0])
        self.refused(desk, -6, "unthread", 1)

    def test_a_machine_that_runs_without_a_reel(self):
        desk = showing()
        desk.do("tick", 9)
        desk.do("seize", 1)
        desk.do("unthread", 1)
        desk.do("mend", 1)
        desk.do("tick", 1)
        self.assertEqual(desk.motion(1), (1, 1, 0))
        self.refused(desk, -4, "unthread", 1)


class Go(CallCase):
    def test_it_waits(self):
        for number in (0, 1):
            desk = Desk(sheet_text())
            desk.do("thread", number, 1, 4)
            self.changed(desk, [0], ("go", number, 6), (number, "motor", True), (number, "lamp", True),
                         (None, "mode", 1), (None, "active", number), (None, "target", 6))

    def test_the_reason_is_0(self):
        desk = showing()
        desk.do("halt")
        self.assertEqual(desk.house.reason, 6)
        self.changed(desk, [0], ("go", 1, 2), (1, "motor", True), (1, "lamp", True),
                     (None, "mode", 1), (None, "active", 1), (None, "target", 2), (None, "reason", 0))

    def test_a_machine_that_fails_may_be_set_going(self):
        desk = Desk(sheet_text())
        desk.do("thread", 0, 0, 3)
        desk.do("seize", 0)
        desk.do("tear", 0)
        desk.do("lampout", 0)
        self.assertEqual(desk.ask("go", 0, 0), [0])

    def test_frames(self):
        for frame in (-1, -2, 2001, FAR, -FAR):
            self.refused(Desk(sheet_text()), -1, "go", 0, frame)
        for frame in (0, 1, 1999, 2000):
            self.refused(Desk(sheet_text()), -6, "go", 0, frame)

    def test_behind_the_last_frame_to_be_shown(self):
        # of reel 0 the change cue 14, of reel 1 the last frame 11
        for reel, last in ((0, 14), (1, 11)):
            desk = Desk(sheet_text())
            desk.do("thread", 0, reel, 3)
            for frame in (last + 1, last + 2, 2000):
                self.refused(desk, -1, "go", 0, frame)
            self.assertEqual(desk.ask("go", 0, last), [0])

    def test_going(self):
        desk = Desk(sheet_text())
        desk.do("thread", 0, 0, 3)
        desk.do("go", 0, 0)
        for ticks in (1, 6):
            self.refused(desk, -3, "go", 0, 0)
            desk.do("tick", ticks)

    def test_order(self):
        desk = Desk(sheet_text())
        desk.do("thread", 0, 0, 3)
        desk.do("go", 0, 0)
        self.refused(desk, -1, "go", 1, 2001)
        self.refused(desk, -1, "go", 2, 0)
        self.refused(desk, -3, "go", 1, 0)
        self.refused(desk, -3, "go", 0, 15)

    def test_behind_the_end(self):
        desk = showing()
        self.assertEqual(desk.ask("tick", 27), [32, 4])
        self.assertEqual(desk.ask("go", 1, 0), [0])


class Halt(CallCase):
    def test_it_stops(self):
        for ticks in (1, 3, 4, 5, 20):
            desk = Desk(sheet_text())
            desk.do("thread", 0, 0, 3)
            desk.do("thread", 1, 1, 5)
            desk.do("go", 0, 0)
            desk.do("tick", ticks)
            off = [(number, name, value) for number in (0, 1)
                   for name, value in (("motor", False), ("lamp", False), ("glow", 0), ("told", False))]
            log = desk.snapshot()["log"]
            self.changed(desk, [0], ("halt",), *off, (None, "mode", 3), (None, "reason", 6),
                         (None, "log", log + [[ticks, 4, 6]]))

    def test_not_going(self):
        desk = Desk(sheet_text())
        self.refused(desk, -3, "halt")
        desk = showing()
        desk.do("halt")
        self.refused(desk, -3, "halt")
        desk = showing()
        desk.do("tick", 27)
        self.assertEqual(desk.house.mode, 4)
        self.refused(desk, -3, "halt")


class Tick(CallCase):
    def test_answers(self):
        given = ask_all(("sheet", sheet_text()), ("tick", 3), ("thread", 0, 0, 3), ("thread", 1, 1, 5), ("go", 0, 0),
                        ("tick", 4), ("tick", 1), ("tick", 26), ("tick", 1), ("tick", 500))
        self.assertEqual(given[1:], [[3, 0], [0], [0], [0], [7, 1], [8, 2], [34, 2], [35, 4], [535, 4]])

    def test_many_are_as_one_behind_another(self):
        one = showing()
        many = showing()
        for turn in range(60):
            one.do("tick", 1)
        many.do("tick", 60)
        self.assertEqual(one.snapshot(), many.snapshot())


class Failures(CallCase):
    def test_seize(self):
        self.changed(showing(), [0], ("seize", 0), (0, "seized", True), (0, "phase", 0), (0, "douser", False))
        self.changed(Desk(sheet_text()), [0], ("seize", 1), (1, "seized", True))
        desk = showing()
        desk.do("tick", 9)
        self.assertEqual(desk.motion(1), (1, 1, -5))
        self.changed(desk, [0], ("seize", 1), (1, "seized", True), (1, "phase", 0), (1, "count", 0))

    def test_tear(self):
        self.assertTrue(showing().machine(0).douser)
        self.changed(showing(), [0], ("tear", 0), (0, "torn", True), (0, "douser", False))
        self.changed(showing(), [0], ("tear", 1), (1, "torn", True))
        self.refused(Desk(sheet_text()), -6, "tear", 0)
        self.refused(Desk(sheet_text()), -6, "tear", 1)

    def test_lampout(self):
        self.changed(showing(), [0], ("lampout", 0), (0, "dead", True))
        self.changed(Desk(sheet_text()), [0], ("lampout", 1), (1, "dead", True))

    def test_mend(self):
        desk = Desk(sheet_text())
        desk.do("thread", 1, 0, 3)
        for name in ("seize", "tear", "lampout"):
            desk.do(name, 1)
        self.changed(desk, [0], ("mend", 1), (1, "seized", False), (1, "torn", False), (1, "dead", False))

    def test_mend_puts_the_glow_to_0(self):
        desk = showing()
        desk.do("seize", 0)
        self.assertEqual(desk.machine(0).glow, 5)
        self.changed(desk, [0], ("mend", 0), (0, "seized", False), (0, "glow", 0))

    def test_mend_a_machine_that_does_not_stand(self):
        desk = showing()
        self.refused(desk, -4, "mend", 0)
        self.assertEqual(desk.ask("mend", 1), [0])
        desk.do("tick", 9)
        self.refused(desk, -4, "mend", 1)
        desk.do("halt")
        desk.do("tick", 1)
        self.assertEqual(desk.machine(0).phase, 3)
        self.refused(desk, -4, "mend", 0)
        self.refused(desk, -1, "mend", 2)
        desk.do("tick", 2)
        self.assertEqual(desk.ask("mend", 0), [0])


class Power(CallCase):
    def test_going(self):
        desk = showing()
        desk.do("tick", 10)
        self.assertEqual(desk.motion(1), (1, 2, -4))
        off = [(number, name, value) for number in (0, 1)
               for name, value in (("motor", False), ("lamp", False), ("glow", 0), ("told", False),
                                   ("phase", 0), ("count", 0), ("douser", False))]
        log = desk.snapshot()["log"]
        self.changed(desk, [0], ("power",), *off, (None, "mode", 3), (None, "reason", 5),
                     (None, "log", log + [[15, 4, 5]]))

    def test_waiting(self):
        given = ask_all(("sheet", sheet_text()), ("thread", 0, 0, 3), ("go", 0, 0), ("tick", 2), ("power",),
                        ("tick", 1), ("thread", 0, 0, 3))
        self.assertEqual(given[3:], [[2, 1], [0], [3, 3], [0]])

    def test_not_going(self):
        self.changed(Desk(sheet_text()), [0], ("power",))
        desk = showing()
        desk.do("halt")
        self.changed(desk, [0], ("power",), (0, "phase", 0), (0, "douser", False))
        desk = showing()
        desk.do("tick", 27)
        self.changed(desk, [0], ("power",), (1, "phase", 0), (1, "count", 0))


if __name__ == "__main__":
    unittest.main()
