"""What the tests share: calls by their names, sheets by their parts, and a look into the house."""

import unittest

from twoprojectors.booth import answer_call, answers
from twoprojectors.house import House

FAR = 10 ** 18

NAMES = ("sheet", "shown", "thread", "unthread", "go", "halt", "tick",
         "seize", "tear", "lampout", "mend", "power", "inch", "machine", "house", "screen",
         "record", "log", "lost", "twice", "plan", "lead", "reel", "free")

# How many numbers each call has; the sheet's text aside.
SIZES = {"shown": 0, "thread": 3, "unthread": 1, "go": 2, "halt": 0, "tick": 1,
         "seize": 1, "tear": 1, "lampout": 1, "mend": 1, "power": 0, "inch": 2, "machine": 1, "house": 0, "screen": 0,
         "record": 0, "log": 0, "lost": 0, "twice": 0, "plan": 0, "lead": 1, "reel": 1, "free": 0}

NO_MACHINES = (-1, 2, -2, 3, FAR, -FAR)

TWO_REELS = ("reel 7 frames 20 motor 8 change 14", "reel 3 frames 12 end")


def codes(text):
    return [ord(sign) for sign in text]


def sheet_text(up=4, strike=2, down=3, leader=10, reels=TWO_REELS):
    rows = [f"up {up}", f"strike {strike}", f"down {down}", f"leader {leader}"] + list(reels)
    return "\n".join(rows) + "\n"


def as_list(name, *numbers):
    """One call as it stands in the list that is handed in."""
    if name == "sheet":
        text = codes(numbers[0]) if isinstance(numbers[0], str) else list(numbers[0])
        return [0, len(text)] + text
    return [NAMES.index(name)] + list(numbers)


def joined(calls):
    row = []
    for call in calls:
        row.extend(as_list(*call))
    return row


def parted(given):
    """The answers, one list each."""
    parts = []
    at = 0
    while at < len(given):
        size = given[at]
        parts.append(given[at + 1:at + 1 + size])
        at += 1 + size
    assert at == len(given)
    return parts


def ask_all(*calls):
    return parted(answers(joined(calls)))


def ask_last(*calls):
    return ask_all(*calls)[-1]


def snapshot(value):
    """All that a value holds, copied, so that two moments can be compared."""
    if isinstance(value, (list, tuple)):
        return [snapshot(part) for part in value]
    if hasattr(value, "__dict__"):
        return {name: snapshot(part) for name, part in vars(value).items()}
    return value


class Desk:
    """A house that is called by names and looked into between the calls."""

    def __init__(self, text=None):
        self.house = House()
        if text is not None:
            assert self.ask("sheet", text)[0] == 0

    def ask(self, name, *numbers):
        if name == "sheet":
            numbers = codes(numbers[0]) if isinstance(numbers[0], str) else numbers[0]
        return answer_call(self.house, NAMES.index(name), list(numbers))

    def do(self, name, *numbers):
        answer = self.ask(name, *numbers)
        assert answer[0] >= 0, (name, numbers, answer)
        return answer

    def machine(self, number):
        return self.house.machines[number]

    def motion(self, number):
        machine = self.machine(number)
        return (machine.phase, machine.count, machine.place)

    def snapshot(self):
        return snapshot(self.house)


def showing(**parts):
    """Two reels threaded by their leads, set going, and frame 0 is on the screen (at tick 5)."""
    desk = Desk(sheet_text(**parts))
    desk.do("thread", 0, 0, 3)
    desk.do("thread", 1, 1, 5)
    desk.do("go", 0, 0)
    desk.do("tick", 5)
    return desk


def rows_of(answer, size):
    """The rows of an answer that tells how many there are."""
    assert len(answer) == 1 + size * answer[0], answer
    return [tuple(answer[at:at + size]) for at in range(1, len(answer), size)]


class CallCase(unittest.TestCase):
    def refused(self, desk, number, name, *numbers):
        self.tells(desk, [number], name, *numbers)

    def tells(self, desk, answer, name, *numbers):
        """The call answers that, and nothing changes."""
        before = desk.snapshot()
        self.assertEqual(desk.ask(name, *numbers), answer, (name, numbers))
        self.assertEqual(desk.snapshot(), before, (name, numbers))

    def changed(self, desk, answer, call, *expected):
        """The call answers that, and just the named values of the house or of a machine are other ones."""
        before = desk.snapshot()
        self.assertEqual(desk.ask(*call), answer)
        for number, name, value in expected:
            holder = before if number is None else before["machines"][number]
            holder[name] = value
        self.assertEqual(desk.snapshot(), before)
