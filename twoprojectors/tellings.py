"""Calls 13 to 23, which only tell: each takes the house and its numbers, and answers a list of numbers."""

from twoprojectors.house import is_machine
from twoprojectors.machine import STANDS
from twoprojectors.machine import is_lit
from twoprojectors.refusals import OUT_OF_RANGE
from twoprojectors.screen import on_screen
from twoprojectors.sheet import is_reel
from twoprojectors.sheet import last_frame
from twoprojectors.sheet import lead_of
from twoprojectors.sheet import plan_of
from twoprojectors.tally import NEVER
from twoprojectors.tally import TWICE
from twoprojectors.tally import frames_shown

FIRST_TELLING = 13


def one_if(holds):
    return 1 if holds else 0


def counted(rows):
    answer = [len(rows)]
    for row in rows:
        answer.extend(row)
    return answer


def call_machine(house, numbers):
    if not is_machine(numbers[0]):
        return [OUT_OF_RANGE]
    machine = house.machines[numbers[0]]
    states = [is_lit(machine, house.sheet), machine.douser, machine.seized, machine.torn, machine.dead]
    answer = [machine.reel, machine.place, one_if(machine.motor), machine.phase]
    return answer + [one_if(state) for state in states]


def call_house(house, numbers):
    return [house.ticks, house.mode, house.active, house.target, house.reason, house.dark_ticks]


def call_screen(house, numbers):
    seen = on_screen(house)
    if seen is None:
        return [0]
    return [1, seen[0], seen[1]]


def call_record(house, numbers):
    return counted(house.runs)


def call_log(house, numbers):
    return counted(house.log)


def call_lost(house, numbers):
    return counted(frames_shown(house, NEVER))


def call_twice(house, numbers):
    return counted(frames_shown(house, TWICE))


def call_plan(house, numbers):
    return plan_of(house.sheet)


def call_lead(house, numbers):
    if not is_reel(house.sheet, numbers[0]):
        return [OUT_OF_RANGE]
    return [lead_of(house.sheet, numbers[0])]


def call_reel(house, numbers):
    if not is_reel(house.sheet, numbers[0]):
        return [OUT_OF_RANGE]
    reel = house.sheet.reels[numbers[0]]
    return [reel.name, reel.frames, reel.motor, reel.change, one_if(reel.ends), last_frame(reel)]


def call_free(house, numbers):
    return [one_if(machine.phase == STANDS) for machine in house.machines]


# A call's place in this tuple is its number, less FIRST_TELLING.
TELLINGS = (
    call_machine,
    call_house,
    call_screen,
    call_record,
    call_log,
    call_lost,
    call_twice,
    call_plan,
    call_lead,
    call_reel,
    call_free,
)


def answer_telling(house, call, numbers):
    return TELLINGS[call - FIRST_TELLING](house, numbers)
