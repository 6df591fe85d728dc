"""Calls 0 to 12: each takes the house and its numbers, and answers a list of numbers."""

from twoprojectors.house import WAITS
from twoprojectors.house import is_going
from twoprojectors.house import is_machine
from twoprojectors.house import stop
from twoprojectors.machine import NO_REEL
from twoprojectors.machine import STANDS
from twoprojectors.machine import halt_motor
from twoprojectors.machine import put_off
from twoprojectors.machine import put_on
from twoprojectors.refusals import GOING
from twoprojectors.refusals import NOT_STANDING
from twoprojectors.refusals import OUTSIDE
from twoprojectors.refusals import OUT_OF_RANGE
from twoprojectors.refusals import REEL_ELSEWHERE
from twoprojectors.refusals import WITHOUT_REEL
from twoprojectors.screen import tick_house
from twoprojectors.sheet import Sheet
from twoprojectors.sheet import fill_sheet
from twoprojectors.sheet import is_reel
from twoprojectors.sheet import is_text
from twoprojectors.sheet import last_frame
from twoprojectors.sheet import shown_sheet

POWER_LOST = 5
HALTED = 6

MOST_FRAME = 2000
MOST_TICKS = 500
MOST_INCH = 96


# Why the film of this machine can't be handled, or 0 if it can.
def film_refusal(house, number):
    if is_going(house) and house.active == number:
        return GOING
    if house.machines[number].phase != STANDS:
        return NOT_STANDING
    return 0


def call_sheet(house, text):
    if not is_text(text):
        return [OUT_OF_RANGE]
    if is_going(house):
        return [GOING]
    sheet = Sheet()
    wrong = fill_sheet(sheet, text)
    if len(wrong) > 0:
        return [1] + wrong
    house.begin(sheet)
    return [0, len(sheet.reels)]


def call_shown(house, numbers):
    text = shown_sheet(house.sheet)
    return [len(text)] + text


def is_threading(sheet, reel, lead):
    if not is_reel(sheet, reel):
        return False
    return lead >= 1 - sheet.reels[reel].frames and lead <= sheet.leader


def call_thread(house, numbers):
    number = numbers[0]
    reel = numbers[1]
    lead = numbers[2]
    if not is_machine(number) or not is_threading(house.sheet, reel, lead):
        return [OUT_OF_RANGE]
    refusal = film_refusal(house, number)
    if refusal != 0:
        return [refusal]
    machine = house.machines[number]
    if house.machines[1 - number].reel == reel:
        return [REEL_ELSEWHERE]
    machine.reel = reel
    machine.place = -lead
    machine.torn = False
    return [0]


def call_unthread(house, numbers):
    number = numbers[0]
    if not is_machine(number):
        return [OUT_OF_RANGE]
    refusal = film_refusal(house, number)
    if refusal != 0:
        return [refusal]
    machine = house.machines[number]
    if machine.reel == NO_REEL:
        return [WITHOUT_REEL]
    machine.reel = NO_REEL
    machine.place = 0
    machine.torn = False
    return [0]


def call_go(house, numbers):
    number = numbers[0]
    frame = numbers[1]
    if not is_machine(number) or frame < 0 or frame > MOST_FRAME:
        return [OUT_OF_RANGE]
    if is_going(house):
        return [GOING]
    machine = house.machines[number]
    if machine.reel == NO_REEL:
        return [WITHOUT_REEL]
    if frame > last_frame(house.sheet.reels[machine.reel]):
        return [OUT_OF_RANGE]
    put_on(machine)
    house.mode = WAITS
    house.active = number
    house.target = frame
    house.reason = 0
    return [0]


def call_halt(house, numbers):
    if not is_going(house):
        return [GOING]
    stop(house, HALTED)
    return [0]


def call_tick(house, numbers):
    count = numbers[0]
    if count < 1 or count > MOST_TICKS:
        return [OUT_OF_RANGE]
    for turn in range(count):
        tick_house(house)
    return [house.ticks, house.mode]


def call_seize(house, numbers):
    if not is_machine(numbers[0]):
        return [OUT_OF_RANGE]
    machine = house.machines[numbers[0]]
    machine.seized = True
    machine.douser = False
    halt_motor(machine)
    return [0]


def call_tear(house, numbers):
    if not is_machine(numbers[0]):
        return [OUT_OF_RANGE]
    machine = house.machines[numbers[0]]
    if machine.reel == NO_REEL:
        return [WITHOUT_REEL]
    machine.torn = True
    machine.douser = False
    return [0]


def call_lampout(house, numbers):
    if not is_machine(numbers[0]):
        return [OUT_OF_RANGE]
    machine = house.machines[numbers[0]]
    machine.dead = True
    return [0]


def call_mend(house, numbers):
    if not is_machine(numbers[0]):
        return [OUT_OF_RANGE]
    machine = house.machines[numbers[0]]
    if machine.phase != STANDS:
        return [NOT_STANDING]
    machine.seized = False
    machine.torn = False
    machine.dead = False
    machine.glow = 0
    return [0]


def call_power(house, numbers):
    for machine in house.machines:
        put_off(machine)
        halt_motor(machine)
        machine.douser = False
    if is_going(house):
        stop(house, POWER_LOST)
    return [0]


def call_inch(house, numbers):
    number = numbers[0]
    more = numbers[1]
    if not is_machine(number) or more < -MOST_INCH or more > MOST_INCH:
        return [OUT_OF_RANGE]
    refusal = film_refusal(house, number)
    if refusal != 0:
        return [refusal]
    machine = house.machines[number]
    if machine.reel == NO_REEL:
        return [WITHOUT_REEL]
    place = machine.place + more
    if place < -house.sheet.leader or place > house.sheet.reels[machine.reel].frames:
        return [OUTSIDE]
    machine.place = place
    return [0, place]


# A call's place in this tuple is its number.
ACTIONS = (
    call_sheet,
    call_shown,
    call_thread,
    call_unthread,
    call_go,
    call_halt,
    call_tick,
    call_seize,
    call_tear,
    call_lampout,
    call_mend,
    call_power,
    call_inch,
)


def answer_action(house, call, numbers):
    return ACTIONS[call](house, numbers)
