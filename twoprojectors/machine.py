"""A machine: what it has, and how it goes through a tick."""

NO_REEL = -1

STANDS = 0
RUNS_UP = 1
AT_SPEED = 2
RUNS_DOWN = 3


class Machine:
    def __init__(self):
        self.reel = NO_REEL
        self.place = 0
        self.motor = False
        self.lamp = False
        self.phase = STANDS
        self.count = 0
        self.glow = 0
        self.told = False
        self.douser = False
        self.seized = False
        self.torn = False
        self.dead = False


def put_on(machine):
    machine.motor = True
    machine.lamp = True


def put_off(machine):
    machine.motor = False
    machine.lamp = False
    machine.glow = 0
    machine.told = False


def halt_motor(machine):
    machine.phase = STANDS
    machine.count = 0


def is_lit(machine, sheet):
    return machine.lamp and not machine.dead and machine.glow >= sheet.strike


# The film can be shown by this machine's motor: nothing is said of its lamp.
def runs_well(machine):
    return machine.phase == AT_SPEED and not machine.seized and not machine.torn


def is_ready(machine, sheet, frame):
    return runs_well(machine) and is_lit(machine, sheet) and machine.place == frame - 1


# With the motor on; True if it moves the film.
def drive(machine, up):
    if machine.phase == AT_SPEED:
        return True
    if machine.phase != RUNS_UP:
        machine.phase = RUNS_UP
        machine.count = 1
        return False
    machine.count += 1
    moves = machine.count % 2 == 0
    if machine.count >= up:
        machine.phase = AT_SPEED
        machine.count = 0
    return moves


# With the motor off; True if it moves the film.
def coast(machine, down):
    if machine.phase == STANDS:
        return False
    moves = False
    if machine.phase == RUNS_DOWN:
        machine.count += 1
        moves = machine.count % 2 == 0
    else:
        machine.phase = RUNS_DOWN
        machine.count = 1
    if machine.count >= down:
        halt_motor(machine)
    return moves


def run_motor(machine, sheet):
    if machine.seized:
        halt_motor(machine)
        return False
    if machine.motor:
        return drive(machine, sheet.up)
    return coast(machine, sheet.down)


# True if the film moves.
def move_film(machine, sheet):
    if machine.reel == NO_REEL or machine.torn:
        return False
    if machine.place >= sheet.reels[machine.reel].frames:
        return False
    machine.place += 1
    return True


def pass_tick(machine, sheet):
    at_full_speed = machine.phase == AT_SPEED and machine.motor and not machine.seized
    moved = run_motor(machine, sheet) and move_film(machine, sheet)
    machine.glow = machine.glow + 1 if machine.lamp else 0
    machine.douser = machine.told and moved and at_full_speed
