"""A tick of the house, what is on the screen behind it, and how that is recorded."""

from twoprojectors.automation import begin_tick
from twoprojectors.house import OVER
from twoprojectors.machine import is_lit
from twoprojectors.machine import pass_tick


# The reel and the frame on the screen, or None if it is dark.
def on_screen(house):
    for machine in house.machines:
        if machine.douser and is_lit(machine, house.sheet):
            return (machine.reel, machine.place)
    return None


# A run is a list: first tick, reel, first frame, last frame.
def goes_on(run, tick, reel, frame):
    # A run has one frame for each tick, so its last tick needn't be kept.
    last_tick = run[0] + run[3] - run[2]
    return run[1] == reel and frame == run[3] + 1 and tick == last_tick + 1


def record_frame(house, reel, frame):
    runs = house.runs
    if len(runs) > 0 and goes_on(runs[-1], house.ticks, reel, frame):
        runs[-1][3] = frame
    else:
        runs.append([house.ticks, reel, frame, frame])


def record_screen(house):
    seen = on_screen(house)
    if seen is not None:
        record_frame(house, seen[0], seen[1])
    elif len(house.runs) > 0 and house.mode != OVER:
        house.dark_ticks += 1


def tick_house(house):
    house.ticks += 1
    begin_tick(house)
    for machine in house.machines:
        pass_tick(machine, house.sheet)
    record_screen(house)
