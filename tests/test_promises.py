"""Points 1 to 3 of the promises, over whole shows and over shows in which much fails."""

import random
import unittest

from tests.helper import Desk, rows_of, sheet_text

# up, strike, down, leader, and each reel: frames, motor cue, change cue; the last one: frames
SHOWS = (
    (4, 2, 3, 10, (20, 8, 14), 12),
    (2, 0, 0, 2, (9, 4, 6), (9, 4, 6), 5),
    (3, 0, 1, 2, (9, 4, 7), (9, 5, 8), 1),
    (5, 5, 2, 9, (40, 20, 31), (40, 10, 15), (30, 20, 29), 40),
    (4, 9, 5, 8, (60, 20, 29), (60, 20, 29), (60, 20, 29), (60, 20, 29), (60, 20, 29), 30),
    (2, 48, 20, 48, (200, 100, 148), (200, 100, 148), 200),
    (48, 0, 48, 90, (200, 60, 150), (200, 100, 148), (200, 90, 180), 100),
    (7, 8, 6, 30, (90, 10, 30), (60, 30, 40), (60, 20, 45), (60, 20, 40), 2),
    (4, 4, 4, 3, 1),
    (5, 48, 0, 96, 2000),
    (6, 3, 2, 96, (2000, 1901, 1999), (2000, 50, 56), 2000),
)


def text_of(show):
    rows = [f"reel {name} frames {reel[0]} motor {reel[1]} change {reel[2]}"
            for name, reel in enumerate(show[4:-1], start=11)]
    rows.append(f"reel 99 frames {show[-1]} end")
    return sheet_text(show[0], show[1], show[2], show[3], rows)


def leads_of(show):
    up, strike = show[:2]
    leads = [1 + up // 2 + max(0, strike - up)]
    for reel in show[4:-1]:
        leads.append(1 + up // 2 + reel[2] - reel[1] - up)
    return leads


def frames_of(show):
    """Each frame to be shown, in order."""
    shown = []
    for reel, parts in enumerate(show[4:]):
        last = parts - 1 if isinstance(parts, int) else parts[2]
        shown.extend((reel, frame) for frame in range(last + 1))
    return shown


def on_screen(desk):
    answer = desk.ask("screen")
    return tuple(answer[1:]) if answer[0] == 1 else None


def made_show(source):
    """A show as it comes, with time enough between a change and the next motor cue to thread the reel behind."""
    up = source.randrange(2, 49)
    strike = source.choice((0, up - 1, up, up + 1, 48, source.randrange(49)))
    strike = min(strike, 48)
    down = source.randrange(49)
    show = [up, strike, down, 96]
    for reel in range(source.randrange(6)):
        motor = down + 2 + source.randrange(40)
        most = 95 + up - up // 2
        change = motor + source.choice((max(up, strike), source.randrange(max(up, strike), most + 1)))
        show.append((change + 1 + source.randrange(30), motor, change))
    show.append(1 + source.randrange(60))
    return tuple(show)


class Watcher:
    """Ticks a house one by one and looks whether the first point holds."""

    def __init__(self, case, desk):
        self.case = case
        self.desk = desk

    def machines(self):
        return [self.desk.ask("machine", number) for number in (0, 1)]

    def tick(self):
        before = self.machines()
        self.desk.do("tick", 1)
        self.look()
        for was, machine in zip(before, self.machines()):
            if machine[5] == 1:
                self.case.assertEqual(was[2:4], [1, 2])
                self.case.assertEqual(machine[:2], [was[0], was[1] + 1])
                self.case.assertEqual(machine[2:8], [1, 2, 1, 1, 0, 0])

    def look(self):
        machines = self.machines()
        self.case.assertLess(machines[0][5] + machines[1][5], 2)
        for machine in machines:
            if machine[5] == 1:
                self.case.assertEqual((machine[3], machine[6], machine[7]), (2, 0, 0))


class WholeShows(unittest.TestCase):
    def show(self, show, first):
        desk = Desk(text_of(show))
        watcher = Watcher(self, desk)
        leads = [desk.ask("lead", reel)[0] for reel in range(len(show) - 4)]
        self.assertEqual(leads, leads_of(show))
        frames = frames_of(show)
        desk.do("thread", first, 0, leads[0])
        desk.do("go", first, 0)
        threaded = 1
        start = 1 + max(show[0], show[1])
        for tick in range(1, start + len(frames)):
            # A reel goes onto the machine that isn't active as soon as that one stands.
            other = 1 - desk.house.active
            if threaded < len(leads) and desk.machine(other).reel != threaded - 1 and desk.ask("free")[other] == 1:
                desk.do("thread", other, threaded, leads[threaded])
                threaded += 1
            watcher.tick()
            self.assertEqual(on_screen(desk), frames[tick - start] if tick >= start else None, (show, tick))
        self.assertEqual(desk.do("tick", 1), [start + len(frames), 4])
        desk.do("tick", 9)
        self.behind_it(desk, start, show)

    def behind_it(self, desk, start, show):
        self.assertEqual(desk.ask("house")[1:2] + desk.ask("house")[4:], [4, 0, 0])
        self.assertEqual(desk.ask("lost"), [0])
        self.assertEqual(desk.ask("twice"), [0])
        runs = rows_of(desk.ask("record"), 4)
        self.assertEqual(runs, self.runs(show, start))
        plan = [tick for run in runs for tick in (run[0], run[0] + run[3])]
        self.assertEqual(desk.ask("plan"), plan, show)

    def runs(self, show, start):
        runs = []
        for reel, parts in enumerate(show[4:]):
            last = parts - 1 if isinstance(parts, int) else parts[2]
            runs.append((start, reel, 0, last))
            start += last + 1
        return runs

    def test_each_frame_once_and_in_order(self):
        for show in SHOWS:
            for first in (0, 1):
                self.show(show, first)

    def test_shows_as_they_come(self):
        source = random.Random(20)
        for turn in range(60):
            self.show(made_show(source), turn % 2)


class Failures(unittest.TestCase):
    """Shows in which calls come as they come; a written seed, so that each run is the same."""

    def call(self, source, reels):
        number = source.randrange(2)
        return source.choice((
            ("thread", number, source.randrange(reels), source.randrange(-9, 9)),
            ("unthread", number), ("inch", number, source.randrange(-9, 9)), ("go", number, source.randrange(12)), ("go", number, 0), ("halt",),
            ("seize", number), ("tear", number), ("lampout", number), ("mend", number), ("mend", number), ("power",)))

    def show(self, seed):
        source = random.Random(seed)
        show = source.choice(SHOWS[:5])
        desk = Desk(text_of(show))
        watcher = Watcher(self, desk)
        leads = leads_of(show)
        last = None
        target = None
        for turn in range(120):
            call = self.call(source, len(leads))
            if source.randrange(3) == 0:
                reel = source.randrange(len(leads))
                call = ("thread", source.randrange(2), reel, leads[reel])
            answer = desk.ask(*call)
            watcher.look()
            if call[0] == "go" and answer == [0]:
                target = (desk.machine(call[1]).reel, call[2])
            for tick in range(source.choice((0, 0, 1, 3, 10, 40))):
                watcher.tick()
                seen = on_screen(desk)
                if seen is not None:
                    allowed = [target]
                    if last is not None:
                        allowed += [(last[0], last[1] + 1), (last[0] + 1, 0)]
                    self.assertIn(seen, allowed)
                    last = seen
        return len(desk.house.runs)

    def test_much_fails(self):
        runs = sum(self.show(seed) for seed in range(150))
        # The look above means something only if much was on the screen.
        self.assertGreater(runs, 100)


if __name__ == "__main__":
    unittest.main()
