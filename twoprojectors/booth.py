"""The booth: a list of calls on one new house, and the list of their answers."""

from twoprojectors.actions import answer_action
from twoprojectors.house import House
from twoprojectors.refusals import NO_SHEET
from twoprojectors.tellings import FIRST_TELLING
from twoprojectors.tellings import answer_telling

SHEET = 0

# How many numbers each call has behind its own, by the call's number; a sheet's text tells its length itself.
SIZES = (0, 0, 3, 1, 2, 0, 1, 1, 1, 1, 1, 0, 2, 1, 0, 0, 0, 0, 0, 0, 0, 1, 1, 0)


def answer_call(house, call, numbers):
    if call != SHEET and house.sheet is None:
        return [NO_SHEET]
    if call < FIRST_TELLING:
        return answer_action(house, call, numbers)
    return answer_telling(house, call, numbers)


def answers(calls):
    house = House()
    given = []
    at = 0
    while at < len(calls):
        call = calls[at]
        at += 1
        size = SIZES[call]
        if call == SHEET:
            size = calls[at]
            at += 1
        answer = answer_call(house, call, calls[at:at + size])
        at += size
        given.append(len(answer))
        given.extend(answer)
    return given
