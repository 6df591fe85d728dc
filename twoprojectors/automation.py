"""The automation: what it does at the beginning of a tick."""

from twoprojectors.house import LOG_CHANGED
from twoprojectors.house import LOG_MISSING
from twoprojectors.house import LOG_OVER
from twoprojectors.house import LOG_SHOWING
from twoprojectors.house import LOG_STARTED
from twoprojectors.house import OVER
from twoprojectors.house import RUNS
from twoprojectors.house import WAITS
from twoprojectors.house import active_machine
from twoprojectors.house import other_machine
from twoprojectors.house import stop
from twoprojectors.house import write_log
from twoprojectors.machine import AT_SPEED
from twoprojectors.machine import NO_REEL
from twoprojectors.machine import is_lit
from twoprojectors.machine import is_ready
from twoprojectors.machine import put_off
from twoprojectors.machine import put_on
from twoprojectors.machine import runs_well
from twoprojectors.sheet import last_frame

NEVER_READY = 1
NOT_RUNNING = 2
NO_NEXT_REEL = 3
NOT_LIT = 4


def has_next_reel(house):
    return other_machine(house).reel == active_machine(house).reel + 1


# A machine that is not ready yet can't be any more.
def is_too_late(machine, target):
    if machine.phase == AT_SPEED and machine.place >= target - 1:
        return True
    return machine.seized or machine.torn or machine.dead or machine.reel == NO_REEL


def wait_for_target(house):
    machine = active_machine(house)
    if is_ready(machine, house.sheet, house.target):
        machine.told = True
        house.mode = RUNS
        write_log(house, LOG_SHOWING, house.active)
    elif is_too_late(machine, house.target):
        stop(house, NEVER_READY)


def end_show(house):
    put_off(active_machine(house))
    house.mode = OVER
    write_log(house, LOG_OVER, house.active)


def start_other(house):
    if has_next_reel(house):
        put_on(other_machine(house))
        write_log(house, LOG_STARTED, 1 - house.active)
    else:
        write_log(house, LOG_MISSING, 1 - house.active)


def change_over(house):
    if not has_next_reel(house):
        stop(house, NO_NEXT_REEL)
        return
    put_off(active_machine(house))
    house.active = 1 - house.active
    machine = active_machine(house)
    if is_ready(machine, house.sheet, 0):
        machine.told = True
        write_log(house, LOG_CHANGED, house.active)
    else:
        put_on(machine)
        house.mode = WAITS
        house.target = 0


def follow_cues(house):
    machine = active_machine(house)
    reel = house.sheet.reels[machine.reel]
    if reel.ends:
        if machine.place == last_frame(reel):
            end_show(house)
    elif machine.place == reel.motor:
        start_other(house)
    elif machine.place == reel.change:
        change_over(house)


def watch_show(house):
    machine = active_machine(house)
    if machine.reel == NO_REEL or not runs_well(machine):
        stop(house, NOT_RUNNING)
    elif not is_lit(machine, house.sheet):
        stop(house, NOT_LIT)
    else:
        follow_cues(house)


def begin_tick(house):
    if house.mode == WAITS:
        wait_for_target(house)
    elif house.mode == RUNS:
        watch_show(house)
