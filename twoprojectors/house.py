"""The house: its sheet, its two machines, and all that the automation and the screen keep."""

from twoprojectors.machine import Machine
from twoprojectors.machine import put_off

NOTHING_BEGUN = 0
WAITS = 1
RUNS = 2
STOPPED = 3
OVER = 4

LOG_STARTED = 1
LOG_CHANGED = 2
LOG_SHOWING = 3
LOG_STOPPED = 4
LOG_OVER = 5
LOG_MISSING = 6


class House:
    def __init__(self):
        self.begin(None)

    # All is new, with this sheet.
    def begin(self, sheet):
        self.sheet = sheet
        self.machines = [Machine(), Machine()]
        self.ticks = 0
        self.mode = NOTHING_BEGUN
        self.active = 0
        self.target = 0
        self.reason = 0
        self.log = []
        self.runs = []
        self.dark_ticks = 0


def is_machine(number):
    return number == 0 or number == 1


def is_going(house):
    return house.mode == WAITS or house.mode == RUNS


def active_machine(house):
    return house.machines[house.active]


def other_machine(house):
    return house.machines[1 - house.active]


def write_log(house, what, which):
    house.log.append((house.ticks, what, which))


def stop(house, reason):
    for machine in house.machines:
        put_off(machine)
    house.mode = STOPPED
    house.reason = reason
    write_log(house, LOG_STOPPED, reason)
